"""Acts, starts, habits and guests by the dozen, always the same ones, for tests that compare."""

import itertools
import random

from shownempty.acts import Act
from shownempty.craft import Craft
from shownempty.guests import Guest
from shownempty.habits import Habits
from shownempty.plots import Plot
from shownempty.standings import Standings
from shownempty.worlds import all_worlds


def rows_of(most):
    """All rows of at most so many answers, the least first."""
    for number in range(most + 1):
        for row in itertools.product("01", repeat=number):
            yield "".join(row)


def some_deed(rng, size, kinds):
    """A deed of 0 to 2 steps."""
    steps = []
    for _ in range(rng.choice((0, 1, 1, 1, 2))):
        source, goal = rng.sample(range(size), 2)
        steps.append((rng.choice(kinds + "~*"), source, goal))
    return tuple(steps)


def some_lot(rng, members, least=0):
    """A lot of some of the members, at least so many."""
    return tuple(sorted(rng.sample(list(members), rng.randint(least, len(members)))))


def some_craft(rng):
    """A craft of the size 2 or 3 with 2 or 3 gestures and 1 to 4 sleights."""
    size = rng.choice((2, 2, 3))
    names = "pass", "show", "wave"
    gestures = [(name, some_deed(rng, size, "ab"), some_lot(rng, range(size))) for name in names[:rng.choice((2, 3))]]
    sleights = [(name, rng.choice(gestures)[0], some_deed(rng, size, "ab"), rng.randint(1, 4),
                 some_lot(rng, range(size + 1))) for name in ("slip", "palm", "load", "keep")[:rng.randint(1, 4)]]
    return Craft(size, gestures, sleights)


def some_cue(rng, craft, number, many):
    """A cue that can have this number among so many."""
    what = rng.choice(("do", "do", "do", "ask", "ask", "glance", "go", "end"))
    if number == many - 1 and what in ("do", "glance", "go"):
        what = rng.choice(("ask", "end"))
    if what == "do":
        gesture = rng.choice(craft.gestures)[0]
        return ("do", gesture, rng.choice(craft.manners_of(gesture)[-2:]))
    if what == "ask":
        return ("ask", rng.randrange(many), rng.randrange(many))
    if what == "glance":
        return ("glance", rng.randrange(craft.size), rng.choice("ab"), rng.randint(number + 1, many - 1))
    return ("go", rng.randint(number + 1, many - 1)) if what == "go" else ("end",)


def some_act(rng, craft):
    """An act of this craft with up to 8 cues."""
    many = rng.randint(1, 8)
    return Act(craft, [some_cue(rng, craft, k, many) for k in range(many)])


def some_start(rng, craft):
    """A world of this craft with up to 2 things."""
    return rng.choice(list(all_worlds(craft.size, rng.choice(("", "a", "a", "ab", "aab")))))


def some_plays(number, seed=0):
    """So many pairs of an act and a start, with the source of chance for whatever else is to be picked."""
    rng = random.Random(seed)
    for _ in range(number):
        craft = some_craft(rng)
        yield some_act(rng, craft), some_start(rng, craft), rng


def some_habits(rng, craft):
    """Habits of this craft."""
    places = range(craft.size + 1)
    return Habits(craft, [(gesture[0], [some_lot(rng, places, 1) for _ in places]) for gesture in craft
                          if rng.random() < 0.6])


def some_guest(rng, craft, start):
    """A guest of this craft, who mostly holds the start."""
    held = {start} if rng.random() < 0.8 else set()
    held.update(rng.sample(list(all_worlds(craft.size, "a")), rng.randint(0 if held else 1, craft.size)))
    return Guest(craft, sorted(held), some_lot(rng, craft.arts), rng.randint(0, 3))


def runs_behind(act, start, most):
    """For each row of at most so many answers that are all asked for, the run behind it."""
    runs = {"": act.run_from((0, start))}
    for row in rows_of(most):
        ahead = runs.get(row[:-1])
        if row and ahead is not None and act.rest_at(ahead[-1]) == "ask":
            runs[row] = act.run_from(act.followers(ahead[-1])[int(row[-1])])
    return runs


def changed_rows(table):
    """The tables in which one row has been left out, with the number of this row."""
    for k in range(len(table)):
        yield k, table[:k] + table[k + 1:]


def rich_plays(number, seed=0):
    """So many acts and starts as above, with sleights and asks, and with at least 5 standings."""
    for act, start, rng in some_plays(100 * number, seed):
        if act.secrets and "ask" in [cue[0] for cue in act] and len(Standings(act, start)) >= 5:
            yield act, start, rng
            number -= 1
        if number == 0:
            return


def moved_by(cues, many):
    """The cues with the numbers of cues in their asks greater by so many."""
    return [cue if cue[0] != "ask" else ("ask", cue[1] + many, cue[2] + many) for cue in cues]


def with_way_out(act):
    """The act, that only strokes and asks, behind a first ask by which it can also be ended at once."""
    return Act(act.craft, [("ask", 1, len(act) + 1)] + moved_by(act.cues, 1) + [("end",)])


def some_pattern(rng, number):
    """A pattern with so many items, most of them None."""
    return tuple([rng.choice((None, None, None, "", "a")) for _ in range(number)])


def some_plot_cue(rng, craft, number, many):
    """A cue of a plot that can have this number among so many."""
    what = rng.choice(("show", "show", "show", "show", "ask", "ask", "ask", "end"))
    if number == many - 1 and what == "show":
        what = rng.choice(("ask", "end"))
    if what == "show":
        gesture, _, shown = rng.choice(craft.gestures)
        return ("show", gesture, [(some_pattern(rng, len(shown)), rng.randint(number + 1, many - 1))
                                  for _ in range(rng.choice((1, 1, 2, 3)))])
    if what == "ask":
        return ("ask", rng.randrange(many), rng.randrange(many))
    return ("end", some_pattern(rng, craft.size))


def some_plots(number, seed=0):
    """So many pairs of a plot with up to 8 cues and a start, with the source of chance."""
    rng = random.Random(seed)
    for _ in range(number):
        craft = some_craft(rng)
        many = rng.randint(1, 8)
        plot = Plot(craft, [some_plot_cue(rng, craft, k, many) for k in range(many)])
        yield plot, some_start(rng, craft), rng
