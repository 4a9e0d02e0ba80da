"""Wishes: whether the world fits whenever an act ends, and whether it ever can."""

from shownempty.acts import followers_of, is_standing, judge_start, rest_of
from shownempty.errors import BadWish
from shownempty.forms import frozen
from shownempty.search import least_row
from shownempty.standings import Standings
from shownempty.tables import first_wrong, standings_in
from shownempty.worlds import fits, is_wish


class Keeps:
    """Whether an act keeps a wish from a start: its standings, or the least answers to an end that does not fit."""

    def __init__(self, act, start, wish):
        judge_start_and_wish(act, start, wish)
        standings = Standings(act, start)
        self.act = act
        self.start = standings.start
        self.wish = frozen(wish)
        self.answers = least_to_end(standings, self.wish, False)
        self.table = tuple(standings) if self.answers is None else None
        self._rows = () if self.table is None else self.table

    def __bool__(self):
        return self.answers is None

    def __len__(self):
        return len(self._rows)

    def __iter__(self):
        return iter(self._rows)


class Reaches:
    """Whether an act can be brought to a wish: the least answers to an end that fits, or its standings."""

    def __init__(self, act, start, wish):
        judge_start_and_wish(act, start, wish)
        standings = Standings(act, start)
        self.act = act
        self.start = standings.start
        self.wish = frozen(wish)
        self.answers = least_to_end(standings, self.wish, True)
        self.table = tuple(standings) if self.answers is None else None
        self._rows = () if self.table is None else self.table

    def __bool__(self):
        return self.answers is not None

    def __len__(self):
        return len(self._rows)

    def __iter__(self):
        return iter(self._rows)


def judge_start_and_wish(act, start, wish):
    """Raises what is wrong with them."""
    judge_start(act, start)
    if not is_wish(wish, act.craft.size):
        raise BadWish(wish)


def least_to_end(standings, wish, fitting):
    """The least answers that lead to an end whose world fits the wish (or does not), None if there is none."""
    ends = [standing for standing in standings if rest_of(standings.act, standing) == "end"]
    return least_row([standings[end] for end in ends if fits(end[1], wish) == fitting])


def judge_keeps(act, start, wish, table):
    """None if the table is right, -1 if the first standing is lacking, otherwise the number of the first bad row."""
    return judge_ends(act, start, wish, table, True)


def judge_never(act, start, wish, table):
    """None if the table is right, -1 if the first standing is lacking, otherwise the number of the first bad row."""
    return judge_ends(act, start, wish, table, False)


def judge_ends(act, start, wish, table, fitting):
    """As the two functions above; at an end the world is to fit the wish, or is not to."""
    judge_start_and_wish(act, start, wish)
    there = standings_in(act, table)
    if (0, frozen(start)) not in there:
        return -1
    return first_wrong([is_right(act, row, there, wish, fitting) for row in table])


def is_right(act, row, there, wish, fitting):
    """Whether the row is a standing whose followers are all there, and whose world at an end fits, or does not."""
    if not is_standing(act, row):
        return False
    standing = frozen(row)
    if rest_of(act, standing) == "end" and fits(standing[1], wish) != fitting:
        return False
    return all([follower in there for follower in followers_of(act, standing)])
