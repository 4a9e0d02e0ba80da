"""Fillings that last: what is sure however often a true act is seen."""

from shownempty.acts import judge_start
from shownempty.actpairs import compared
from shownempty.errors import NoFilling
from shownempty.fillings import Fillings, acts_of
from shownempty.forms import frozen
from shownempty.passages import Passages
from shownempty.plays import show_of, shown_by


class Lasting:
    """The fillings that fit all answers of a true act from a true start."""

    def __init__(self, act, start, held, known):
        judge_start(act, start)
        self._fillings = Fillings(act, held, known)
        self._acts = acts_of(self._fillings)
        self.act = act
        self.start = frozen(start)
        self.held = self._fillings.held
        self.known = self._fillings.known
        self._partings = partings_of(self._fillings, self._acts, act, self.start)
        self.table = tuple([filling for filling in self._fillings if self._partings[filling] is None])
        self.sure = sure_manners(act, self.table)

    def __bool__(self):
        return bool(len(self.table) > 0)

    def __len__(self):
        return len(self.table)

    def __iter__(self):
        return iter(self.table)

    def fitting(self, *shows):
        """The fillings that fit all these answers, ascending."""
        truths = [(answers, show_of(self.act, self.start, answers)) for answers in shows]
        return tuple([(world, manners) for world, manners in self._fillings
                      if all([shown_by(self._acts[manners], world, answers) == truth for answers, truth in truths])])

    def parting(self, filling):
        """The least answers that the filling does not fit, None if it lasts."""
        if filling not in self._fillings:
            raise NoFilling(filling)
        return self._partings[frozen(filling)]


def partings_of(fillings, acts, act, start):
    """For each filling the least answers that it does not fit, None if it lasts."""
    true = Passages(act)
    others = {manners: Passages(acts[manners]) for manners in acts}
    return {(world, manners): compared(true, start, others[manners], world)[1] for world, manners in fillings}


def sure_manners(act, lasting):
    """For each stroke the manner that all lasting fillings have there, or None."""
    sure = []
    for k in range(len(act.strokes)):
        found = sorted(set([manners[k] for _, manners in lasting]))
        sure.append(found[0] if len(found) == 1 else None)
    return tuple(sure)
