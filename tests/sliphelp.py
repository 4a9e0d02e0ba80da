"""Plots against slips of the hand, gone through as the document tells them, for tests that compare."""

import random

from shownempty.craft import Craft
from shownempty.deeds import done
from shownempty.plots import Plot
from shownempty.risks import Risks
from shownempty.worlds import fits
from tests.acthelp import some_deed, some_plots


def some_risks(rng, craft):
    """Risks of this craft; sometimes a fail is the deed of its sleight."""
    fails = []
    for name, _, deed, _, _ in craft.sleights:
        if rng.random() < 0.7:
            fails.append((name, deed if rng.random() < 0.15 else some_deed(rng, craft.size, "ab")))
    rng.shuffle(fails)
    return Risks(craft, fails)


def some_games(number, seed=0):
    """So many plots with risks and starts, with the source of chance."""
    for plot, start, rng in some_plots(number, seed):
        yield plot, some_risks(rng, plot.craft), start, rng


def rich_games(number, seed=0):
    """So many games of plots that ask, with shows, sleights and fails, in whose crafts sleights and honesty differ."""
    for plot, risks, start, rng in some_games(100 * number, seed):
        words = [cue[0] for cue in plot]
        if words.count("show") > 1 and "ask" in words and risks.fails:
            yield plot, risks, start, rng
            number -= 1
        if number == 0:
            return


def slippery_games(number, seed=0):
    """So many games of one look after the other, sometimes with an ask between, until a thing is seen at the place 1."""
    rng = random.Random(seed)
    for _ in range(number):
        sleights = [(name, "look", some_deed(rng, 2, "ab") if rng.random() < 0.4 else (("a", 0, 1),), rng.randint(1, 4), ())
                    for name in ("palm", "load", "turn")[:rng.randint(1, 3)]]
        craft = Craft(2, (("look", (), (1,)),), sleights)
        risks = Risks(craft, [(name, rng.choice(((), (), (("a", 1, 0),), (("b", 0, 1),), (("a", 0, 1),))))
                              for name, _, _, _, _ in sleights if rng.random() < 0.9])
        many = rng.randint(2, 8)
        cues = []
        for k in range(many - 1):
            outs = [((rng.choice(("a", "a", "aa")),), rng.choice((many - 1, k + 1))), (("",), k + 1)]
            cues.append(("ask", k + 1, rng.randint(0, many - 1)) if rng.random() < 0.2 else
                        ("show", "look", outs[:rng.choice((1, 2, 2, 2, 2))]))
        plot = Plot(craft, cues + [("end", (None, rng.choice(("a", "a", None))))])
        yield plot, risks, (rng.choice(("a", "aa", "ab")), ""), rng


def cases_of(plot, risks, most, position, manner):
    """The pairs (world, made) that can come if the manner is picked at a show: done, and, if it can be, slipped.

    None if its deed cannot be done.
    """
    cue, world, made = position
    behind = plot.craft.stroke(world, plot[cue][1], manner)
    if behind is None:
        return None
    cases = [(behind[0], made)]
    fail = risks.fail_of(manner) if manner else None
    if fail is not None and (most is None or made < most) and done(world, fail) is not None:
        cases.append((done(world, fail), 0 if most is None else made + 1))
    return cases


def sight_in(plot, cue, world):
    return tuple([world[place] for place in plot.craft.places_of(plot[cue][1])])


def outs_of(plot, cue, case):
    """The pairs (out, position) of the outs whose sights are fit in a case behind the show with this number."""
    world, made = case
    sight = sight_in(plot, cue, world)
    return [(k, (target, world, made)) for k, (pattern, target) in enumerate(plot[cue][2]) if fits(sight, pattern)]


def manners_at(plot, risks, most, position):
    """The triples (manner, price, cases) of the manners that can be picked at a show."""
    gesture = plot[position[0]][1]
    found = [(manner, plot.craft.price_of(gesture, manner), cases_of(plot, risks, most, position, manner))
             for manner in plot.craft.manners_of(gesture)]
    return [row for row in found if row[2] is not None]


def behind_answers(plot, position):
    return [(number,) + position[1:] for number in plot[position[0]][1:3]]


def positions_from(plot, risks, start, most):
    """All positions of the game, ascending."""
    found = {(0, start, 0)}
    todo = [(0, start, 0)]
    while todo:
        position = todo.pop()
        what = plot[position[0]][0]
        later = behind_answers(plot, position) if what == "ask" else []
        if what == "show":
            later = [behind for _, _, cases in manners_at(plot, risks, most, position)
                     for case in cases for _, behind in outs_of(plot, position[0], case)]
        for behind in later:
            if behind not in found:
                found.add(behind)
                todo.append(behind)
    return sorted(found)


def lost_positions(plot, risks, start, most):
    """The lost positions: those that are found by going on for as long as there are more of them."""
    lost = set()
    positions = positions_from(plot, risks, start, most)
    while True:
        more = {position for position in positions if is_lost(plot, risks, most, position, lost)}
        if more == lost:
            return lost
        lost = more


def is_lost(plot, risks, most, position, lost):
    what = plot[position[0]][0]
    if what == "end":
        return not fits(position[1], plot[position[0]][1])
    if what == "ask":
        return any(behind in lost for behind in behind_answers(plot, position))
    return all(any(all(behind in lost for _, behind in outs_of(plot, position[0], case)) for case in cases)
               for _, _, cases in manners_at(plot, risks, most, position))


def forced_from(plot, risks, most, position, times, known):
    """What guests and luck can force from a position within so many answers, None for the loss."""
    key = (position, times)
    if key not in known:
        what = plot[position[0]][0]
        if what == "end":
            told = 0 if fits(position[1], plot[position[0]][1]) else None
        elif what == "ask":
            found = [forced_from(plot, risks, most, behind, times - 1, known)
                     for behind in behind_answers(plot, position)] if times else [0]
            told = None if None in found else max(found)
        else:
            found = [(price, [best_forced(plot, risks, most, position[0], case, times, known) for case in cases])
                     for _, price, cases in manners_at(plot, risks, most, position)]
            told = min([price + max(cases) for price, cases in found if None not in cases], default=None)
        known[key] = told
    return known[key]


def best_forced(plot, risks, most, cue, case, times, known):
    found = [forced_from(plot, risks, most, behind, times, known) for _, behind in outs_of(plot, cue, case)]
    return min([forced for forced in found if forced is not None], default=None)


def value_from(plot, risks, most, position, known, far=60):
    """The value of a position, as far as so many answers tell it."""
    # One answer more at a time, so that calls do not stand too deep within one another.
    forced = [forced_from(plot, risks, most, position, times, known) for times in range(far + 1)]
    if forced[-1] is None:
        return -2
    return forced[-1] if forced[-1] == forced[far // 2] else -1


def many_positions(nods, inner, fail, waves=0):
    """A plot, risks and a start with very many positions; a thing goes over for each answer, as the guests want it.

    The nods can be done by a sleight whose fail is told, or none if it is None; the first of them can be waves, which
    have no sleight. Without slips there are 115 standings, 25 for each inner nod, and one for each of the nods ahead;
    with at most one slip twice as many positions, less one for each wave and for the first nod.
    """
    craft = Craft(2, (("nod", (), ()), ("wave", (), ()), ("left", (("a", 0, 1),), ()), ("right", (("b", 0, 1),), ())),
                  (("trip", "nod", (), 1, ()),))
    ask = nods + inner
    cues = [("show", "wave" if k < waves else "nod", (((), k + 1),)) for k in range(ask)]
    cues.extend([("ask", ask + 1, ask + 3), ("show", "left", (((), ask + 2),)), ("ask", nods, nods)])
    cues.extend([("show", "right", (((), ask + 4),)), ("ask", nods, nods)])
    return Plot(craft, cues), Risks(craft, () if fail is None else (("trip", fail),)), ("aaaabbbb", "")
