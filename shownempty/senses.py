"""The senses of deeds: what a deed does in every world of its size."""

from shownempty.deeds import ALL, EXCHANGE, is_deed
from shownempty.errors import BadDeed, BadSize
from shownempty.worlds import is_size


class Trace:
    """What lies where behind some steps, told by what lay where at first, whatever that was.

    In each place lies all that lay at first in some places, with so many more things of a kind, or fewer.
    """

    def __init__(self, size):
        self.firsts = [(place,) for place in range(size)]
        self.more = [{} for _ in range(size)]
        self.needs = {}

    def take(self, step):
        """Does the step; whether there is a world in which it can be done."""
        what, source, goal = step
        if what == EXCHANGE:
            self.firsts[source], self.firsts[goal] = self.firsts[goal], self.firsts[source]
            self.more[source], self.more[goal] = self.more[goal], self.more[source]
            return True
        if what == ALL:
            self.move_all(source, goal)
            return True
        return self.move_one(what, source, goal)

    def move_all(self, source, goal):
        """Lays what lies in the one place to what lies in the other."""
        self.firsts[goal] = tuple(sorted(self.firsts[source] + self.firsts[goal]))
        self.firsts[source] = ()
        gone = list(self.more[source].items())
        self.more[source] = {}
        for kind, number in gone:
            self.lay(goal, kind, number)

    def move_one(self, kind, source, goal):
        """Lays a thing of the kind elsewhere; whether one can lie there."""
        lacking = 1 - self.more[source].get(kind, 0)
        if lacking > 0 and len(self.firsts[source]) == 0:
            return False
        if lacking > 0:
            need = (self.firsts[source], kind)
            self.needs[need] = max(self.needs.get(need, 0), lacking)
        self.lay(source, kind, -1)
        self.lay(goal, kind, 1)
        return True

    def lay(self, place, kind, number):
        """Lays so many more things of the kind into the place; fewer, if the number is less than 0."""
        self.more[place][kind] = self.more[place].get(kind, 0) + number

    def where(self):
        """For each place, the place in which at last lies what lay in it at first."""
        at_last = {first: place for place, firsts in enumerate(self.firsts) for first in firsts}
        return tuple([at_last[first] for first in range(len(self.firsts))])

    def nets(self):
        """The triples (place, kind, number) of what was laid elsewhere one by one."""
        found = [(place, kind, number) for place, more in enumerate(self.more)
                 for kind, number in more.items() if number != 0]
        return tuple(sorted(found))


def sense(size, deed):
    """What the deed does in every world of the size, None if it can be done in none."""
    if not is_size(size):
        raise BadSize(size)
    if not is_deed(deed, size):
        raise BadDeed(deed)
    return sense_of(size, deed)


def sense_of(size, deed):
    """As sense, for a size and a deed that are known to be right."""
    trace = Trace(size)
    for step in deed:
        if not trace.take(step):
            return None
    return (trace.where(), trace.nets(), least_needs(trace.needs))


def least_needs(needs):
    """The needs that do not follow from others, as triples (places, kind, number).

    What has been laid together stays together. So of two lots of places that are needed the one is within the other,
    or they have no place in common; and those within a lot were needed ahead of it. Therefore it is enough to lay
    down for each need, in order, what is not there yet: one for which nothing is lacking follows from those ahead.
    """
    laid = {}
    kept = []
    for (places, kind), number in needs.items():
        lacking = number - sum([laid.get((place, kind), 0) for place in places])
        if lacking > 0:
            laid[(places[0], kind)] = laid.get((places[0], kind), 0) + lacking
            kept.append((places, kind, number))
    return tuple(sorted(kept))
