"""Behind the scenes of an evening: where its acts end that are good, and what is prepared between them."""

from heapq import heappop, heappush

from shownempty.acts import followers_of
from shownempty.deeds import moved
from shownempty.games import PICKS, delays_of
from shownempty.search import reached_from
from shownempty.worlds import fits


class Backstage:
    """Pieces and pockets, in whatever worlds; what has been found out of a world is kept."""

    def __init__(self, pieces, pockets, most):
        self.pieces = pieces
        self.pockets = pockets
        self.most = most
        self._acts = {name: (act, wish) for name, act, wish in pieces}
        self._ends = {}
        self._prepared = {}

    def ends(self, name, world):
        """The lot of the worlds in which the act ends, None if it is not good."""
        if (name, world) not in self._ends:
            act, wish = self._acts[name]
            self._ends[(name, world)] = good_ends(act, wish, world, self.most)
        return self._ends[(name, world)]

    def preparings(self, world):
        """For all worlds to which preparings lead, the pair (price, row) of the cheapest one."""
        if world not in self._prepared:
            self._prepared[world] = cheapest_preparings(self.pockets, world)
        return self._prepared[world]

    def calls(self, name, world):
        """The worlds to which preparings lead and from which the act is good, each with its ends."""
        found = [(goal, self.ends(name, goal)) for goal in self.preparings(world)]
        return [(goal, ends) for goal, ends in found if ends is not None]


def good_ends(act, wish, world, most):
    """The worlds in which the act ends from this world, None if it is not good; most is that of its standings."""
    def leads(standing):
        return followers_of(act, standing)

    found = reached_from((0, world), leads, most, "world")
    last = [standing for standing, behind in found.items() if len(behind) == 0]
    if not all([act.cues[number][0] == "end" and fits(there, wish) for number, there in last]):
        return None
    # If all picks lead to an end at last, whatever is picked, there is no loop.
    lost = delays_of({standing: (PICKS, [(0, later) for later in behind]) for standing, behind in found.items()})
    return tuple(sorted(set([there for _, there in last]))) if len(lost) == len(found) else None


def cheapest_preparings(pockets, world):
    """For each world to which preparings lead, the price and the numbers of the cheapest one."""
    found = {}
    # The least are taken first: by their prices, then by their numbers of pockets, then by these themselves.
    waiting = [(0, 0, (), world)]
    while len(waiting) > 0:
        price, many, row, there = heappop(waiting)
        if there not in found:
            found[there] = (price, row)
            for k, (deed, cost) in enumerate(pockets):
                behind = moved(there, deed)
                if behind is not None and behind not in found:
                    heappush(waiting, (price + cost, many + 1, row + (k,), behind))
    return found
