"""Smooth acts: those that are never stuck, whatever the guests answer."""

from shownempty.acts import followers_of, is_standing, judge_start, rest_of
from shownempty.forms import frozen
from shownempty.standings import Standings, least_to_rest
from shownempty.tables import first_wrong, standings_in


class Smooth:
    """Whether an act is smooth from a start: its standings, or the least answers that lead to a stuck one."""

    def __init__(self, act, start):
        standings = Standings(act, start)
        self.act = act
        self.start = standings.start
        self.answers = least_to_rest(standings, "stuck")
        self.table = tuple(standings) if self.answers is None else None
        self._rows = () if self.table is None else self.table

    def __bool__(self):
        return self.answers is None

    def __len__(self):
        return len(self._rows)

    def __iter__(self):
        return iter(self._rows)


def judge_smooth(act, start, table):
    """None if the table is right, -1 if the first standing is lacking, otherwise the number of the first bad row."""
    judge_start(act, start)
    there = standings_in(act, table)
    if (0, frozen(start)) not in there:
        return -1
    return first_wrong([is_right(act, row, there) for row in table])


def is_right(act, row, there):
    """Whether the row is a standing that is not stuck and whose followers are all there."""
    if not is_standing(act, row):
        return False
    standing = frozen(row)
    followers = followers_of(act, standing)
    return rest_of(act, standing) != "stuck" and all([follower in there for follower in followers])
