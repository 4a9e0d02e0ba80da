"""All explanations that a guest has of what he has seen."""

from shownempty.craft import Craft
from shownempty.forms import frozen, is_row
from shownempty.guests import Guest, judge_seen, mind_behind
from shownempty.worlds import is_world


class Explained:
    """How many explanations of seen things there are, the first of them, and what they have in common."""

    def __init__(self, guest, seen):
        judge_seen(guest.craft, seen)
        self.guest = guest
        self.seen = frozen(seen)
        self._strokes = strokes_in(self.seen)
        minds = minds_along(guest, self._strokes)
        counts = counts_of(guest, self._strokes)
        self.fewest = Guest.cost(minds[-1])
        self.number = sum(list(counts.values()))
        self.lightest = 0 if self.fewest is None else counts[self.fewest]
        self.first = first_explanation(guest, self.seen)
        self.sure = sure_manners(guest, self._strokes, minds)

    def __contains__(self, x):
        return is_explanation(self.guest, self._strokes, x)

    def __len__(self):
        return len(self._strokes)


def strokes_in(events):
    """The strokes among the events."""
    return tuple([event for event in events if not isinstance(event, str)])


def minds_along(guest, strokes):
    """The minds behind no stroke, behind the first one, and so on."""
    minds = [guest.beginning]
    for stroke in strokes:
        minds.append(mind_behind(guest, minds[-1], stroke))
    return minds


def counts_of(guest, strokes):
    """How many explanations there are with each number of sleights."""
    counts = {pair: 1 for pair in guest.beginning}
    for stroke in strokes:
        further = {}
        for (world, used), many in counts.items():
            for _, sleights, behind in guest.steps(world, stroke):
                if used + sleights <= guest.most:
                    pair = (behind, used + sleights)
                    further[pair] = further.get(pair, 0) + many
        counts = further
    totals = {}
    for (_, used), many in counts.items():
        totals[used] = totals.get(used, 0) + many
    return totals


def needs_along(guest, strokes, minds):
    """For each number of strokes and each world of the mind there, the fewest sleights that explain all further ones.

    A world from which the further strokes cannot be explained has none.
    """
    needs = [{world: 0 for world, _ in minds[-1]}]
    for k in reversed(range(len(strokes))):
        later = needs[-1]
        needs.append({})
        for world, _ in minds[k]:
            found = [sleights + later[behind] for _, sleights, behind in guest.steps(world, strokes[k])
                     if behind in later]
            if len(found) > 0:
                needs[-1][world] = min(found)
    return needs[::-1]


def first_explanation(guest, events):
    """The first of the explanations of the events, however many these are; None if there is none."""
    strokes = strokes_in(events)
    minds = minds_along(guest, strokes)
    left = Guest.cost(minds[-1])
    if left is None:
        return None
    needs = needs_along(guest, strokes, minds)
    world = [held for held in guest.held if needs[0].get(held, left + 1) == left][0]
    first = world
    manners = []
    for stroke, later in zip(strokes, needs[1:]):
        # The manners come ascending: the first one by which the fewest sleights remain possible is the right one.
        manner, sleights, world = [step for step in guest.steps(world, stroke)
                                   if later.get(step[2], left + 1) == left - step[1]][0]
        left = left - sleights
        manners.append(manner)
    return (first, tuple(manners))


def sure_manners(guest, strokes, minds):
    """For each stroke the manner that all explanations have there, or None."""
    needs = needs_along(guest, strokes, minds)
    sure = []
    for k, stroke in enumerate(strokes):
        later = needs[k + 1]
        found = [manner for world, fewest in minds[k] for manner, sleights, behind in guest.steps(world, stroke)
                 if behind in later and fewest + sleights + later[behind] <= guest.most]
        sure.append(found[0] if len(set(found)) == 1 else None)
    return tuple(sure)


def is_explanation(guest, strokes, thing):
    """Whether it is an explanation of these strokes."""
    if not is_row(thing) or len(thing) != 2 or not is_world(thing[0], guest.craft.size):
        return False
    world, manners = frozen(thing[0]), thing[1]
    if world not in guest.held or not is_row(manners) or len(manners) != len(strokes):
        return False
    if not all([isinstance(manner, str) for manner in manners]):
        return False
    if len([manner for manner in manners if manner != Craft.HONEST]) > guest.most:
        return False
    for stroke, manner in zip(strokes, manners):
        behind = [step[2] for step in guest.steps(world, stroke) if step[0] == manner]
        if len(behind) == 0:
            return False
        world = behind[0]
    return True
