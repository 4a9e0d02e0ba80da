"""Smooth acts: those that are never stuck, whatever the guests answer."""

from shownempty.acts import followers_of, is_standing, rest_of
from shownempty.errors import BadWorld
from shownempty.forms import frozen
from shownempty.standings import Standings, least_row, standings_in
from shownempty.worlds import is_world


class Smooth:
    """Whether an act is smooth from a start: its standings, or the least answers that lead to a stuck one."""

    def __init__(self, act, start):
        standings = Standings(act, start)
        self.act = act
        self.start = standings.start
        stuck = [standings[standing] for standing in standings if rest_of(act, standing) == "stuck"]
        self.answers = least_row(stuck)
        self.table = tuple(standings) if self.answers is None else None
        self._rows = () if self.table is None else self.table

    def __bool__(self):
        return self.answers is None

    def __len__(self):
        return len(self._rows)

    def __iter__(self):
        return iter(self._rows)


def judge_smooth(act, start, table):
    """None if the table is right, -1 if the first standing is lacking, otherwise the number of the first bad row."""
    if not is_world(start, act.craft.size):
        raise BadWorld(start)
    there = standings_in(act, table)
    if (0, frozen(start)) not in there:
        return -1
    for k, row in enumerate(table):
        if not is_right(act, row, there):
            return k
    return None


def is_right(act, row, there):
    """Whether the row is a standing that is not stuck and whose followers are all there."""
    if not is_standing(act, row):
        return False
    standing = frozen(row)
    followers = followers_of(act, standing)
    return rest_of(act, standing) != "stuck" and all([follower in there for follower in followers])
