"""Fillings: what may truly be done and lie where, for who knows the cues of an act alone."""

from shownempty.acts import Act
from shownempty.errors import NoFilling, TooMany
from shownempty.forms import frozen, is_row, is_whole
from shownempty.guests import judge_held, judge_known, known_ways
from shownempty.plays import judge_answers, shown_by
from shownempty.worlds import is_world

MOST_FILLINGS = 300


class Fillings:
    """All fillings of an act with held worlds and known sleights, ascending."""

    def __init__(self, act, held, known):
        judge_held(act.craft, held)
        judge_known(act.craft, known)
        self.act = act
        self.held = frozen(held)
        self.known = frozen(known)
        rows = rows_of_manners(act, self.known, MOST_FILLINGS // len(self.held))
        self._rows = tuple([(world, manners) for world in self.held for manners in rows])
        self._there = {filling: True for filling in self._rows}

    def __len__(self):
        return len(self._rows)

    def __iter__(self):
        return iter(self._rows)

    def __contains__(self, x):
        return is_filling(self.act, x) and frozen(x) in self._there

    def __getitem__(self, at):
        if not is_whole(at, 0, len(self._rows) - 1):
            raise NoFilling(at)
        return self._rows[at]

    def filled(self, filling):
        """The act with the manners of the filling."""
        if filling not in self:
            raise NoFilling(filling)
        return act_with(self.act, frozen(filling)[1])

    def show(self, filling, answers):
        """What the filling shows for the answers."""
        act = self.filled(filling)
        judge_answers(answers)
        return shown_by(act, frozen(filling)[0], answers)


def rows_of_manners(act, known, most):
    """All rows of manners of the strokes of an act, ascending; raises that they are more than most."""
    rows = [()]
    for number in act.strokes:
        manners = [manner for manner, _, _ in known_ways(act.craft, act.cues[number][1], known)]
        if len(rows) * len(manners) > most:
            raise TooMany("filling")
        rows = [row + (manner,) for row in rows for manner in manners]
    return rows


def act_with(act, manners):
    """The act with these manners of its strokes, in their order."""
    cues = list(act.cues)
    for number, manner in zip(act.strokes, manners):
        cues[number] = ("do", cues[number][1], manner)
    return Act(act.craft, cues)


def is_filling(act, thing):
    """Whether it is a pair of a world and a tuple of strings."""
    if not is_row(thing) or len(thing) != 2 or not is_world(thing[0], act.craft.size):
        return False
    return is_row(thing[1]) and all([isinstance(manner, str) for manner in thing[1]])


def acts_of(fillings):
    """The act of each row of manners that fillings have."""
    return {manners: act_with(fillings.act, manners) for manners in sorted(set([row[1] for row in fillings]))}
