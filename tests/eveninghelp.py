"""Evenings by the dozen, and what is told of them, found out once more in a plain way."""

import random

from shownempty.acts import Act
from shownempty.craft import Craft
from shownempty.deeds import done
from shownempty.ending import Ending
from shownempty.errors import TooMany
from shownempty.evenings import Evening
from shownempty.smooth import Smooth
from shownempty.standings import Standings
from shownempty.wishes import Keeps
from tests.acthelp import some_craft, some_cue, some_deed

NAMES = ("vase", "coin", "rope", "silk")


def some_ending_act(rng, craft):
    """An act whose asks mostly lead to later cues alone, so that it often is good."""
    many = rng.randint(1, 6)
    cues = [some_cue(rng, craft, k, many) for k in range(many - 1)]
    if rng.random() < 0.9:
        cues = [cue if cue[0] != "ask" else ("ask", rng.randint(k + 1, many - 1), rng.randint(k + 1, many - 1))
                for k, cue in enumerate(cues)]
    return Act(craft, cues + [("end",)])


def some_evenings(number, seed=0, most=4):
    """So many evenings of crafts of the size 2 or 3, with the source of chance."""
    rng = random.Random(seed)
    while number:
        craft = some_craft(rng)
        names = rng.sample(NAMES, rng.randint(1, most))
        pieces = [(name, some_ending_act(rng, craft), tuple([rng.choice((None, None, None, "", "a")) for _ in range(craft.size)]))
                  for name in names]
        pockets = [(some_deed(rng, craft.size, "ab"), rng.randint(0, 4)) for _ in range(rng.randint(0, 4))]
        start = ("".join(sorted(rng.choice(("", "a", "ab", "aa")))),) + ("",) * (craft.size - 1)
        try:
            yield Evening(pieces, pockets, start), rng
            number -= 1
        except TooMany:
            continue


def rich_evenings(number, seed=0, most=4):
    """So many evenings with at least two worlds, from whose start each act can be called."""
    for evening, rng in some_evenings(100 * number, seed, most):
        if len(evening.worlds) > 1 and all(order_value_of(evening, (piece[0],), evening.start) >= 0 for piece in evening):
            yield evening, rng
            number -= 1
        if number == 0:
            return


def ends_of(evening, name, world):
    """The worlds in which the act ends, None if it is not good."""
    act, wish = {piece[0]: piece[1:] for piece in evening.pieces}[name]
    if not Smooth(act, world) or not Ending(act, world) or not Keeps(act, world, wish):
        return None
    return tuple(sorted({there for number, there in Standings(act, world) if act[number][0] == "end"}))


def preparings_of(evening, world):
    """For each world the price and the row of the cheapest preparing: all rows are made longer until none is better."""
    best = {world: (0, 0, ())}
    fresh = [world]
    while fresh:
        later = []
        for here in fresh:
            price, many, row = best[here]
            for k, (deed, cost) in enumerate(evening.pockets):
                there = done(here, deed)
                if there is not None and (price + cost, many + 1, row + (k,)) < best.get(there, (10 ** 9,)):
                    best[there] = (price + cost, many + 1, row + (k,))
                    later.append(there)
        fresh = later
    return {there: (price, row) for there, (price, _, row) in best.items()}


def worlds_of(evening):
    """The start and all worlds to which preparings and good acts lead."""
    found, todo = {evening.start}, [evening.start]
    while todo:
        here = todo.pop()
        later = list(preparings_of(evening, here))
        for piece in evening.pieces:
            later.extend(ends_of(evening, piece[0], here) or ())
        for there in later:
            if there not in found:
                found.add(there)
                todo.append(there)
    return tuple(sorted(found))


def calls_of(evening, name, world, value):
    """The triples (sum, world, price) of the good ways to do the act, with the values of its ends."""
    found = []
    for there, (price, _) in preparings_of(evening, world).items():
        ends = ends_of(evening, name, there)
        values = [value(end) for end in ends] if ends is not None else [-1]
        if -1 not in values:
            found.append((price + max(values), there, price))
    return sorted(found)


def value_of(evening, world, left):
    """The value of a world and a lot of names."""
    sums = []
    for name in left:
        rest = tuple(other for other in left if other != name)
        calls = calls_of(evening, name, world, lambda end: value_of(evening, end, rest))
        if not calls:
            return -1
        sums.append(calls[0][0])
    return max(sums, default=0)


def order_value_of(evening, order, world):
    """The value of a world and an order."""
    if not order:
        return 0
    calls = calls_of(evening, order[0], world, lambda end: order_value_of(evening, order[1:], end))
    return calls[0][0] if calls else -1


def delays_of(evening):
    """The delays of the lost worlds: the least ones first, as long as there are more."""
    delays = {}
    for delay in range(1, 10 ** 6):
        found = {}
        for world in evening.worlds:
            left = [left_by(evening, piece[0], world, delays) for piece in evening.pieces]
            if world not in delays and delay - 1 in left:
                found[world] = delay
        if not found:
            return delays
        delays.update(found)


def left_by(evening, name, world, delays):
    """What a piece leaves that fails in a world, None if it does not fail."""
    left = [0]
    for there in preparings_of(evening, world):
        ends = ends_of(evening, name, there)
        if ends is not None:
            lost = [delays[end] for end in ends if end in delays]
            if not lost:
                return None
            left.append(min(lost))
    return max(left)


def back_craft():
    """A craft with a gesture by which all comes back from the place 3, and the pockets by which all goes there."""
    craft = Craft(4, (("back", (("*", 3, 0),), ()), ("nod", (), ())))
    return craft, [(((kind, place, place + 1),), 1) for kind in "ab" for place in range(3)]


def wide_evening(start):
    """The evening of this craft, with one act; it has 200 worlds if three a, two b and a c lie in the place 0.

    The c stays there, so that if all lie in the place 3 at first there is one world more.
    """
    craft, pockets = back_craft()
    return (("coin", Act(craft, (("do", "back", ""), ("end",))), (None,) * 4),), pockets, start
