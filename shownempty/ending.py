"""Acts that always end: ranks, and loops that break them."""

from shownempty.acts import followers_of, judge_start, rest_of
from shownempty.forms import frozen
from shownempty.loops import first_loop, greatest_sums
from shownempty.standings import Standings, least_to_rest
from shownempty.tables import first_wrong, is_numbered, numbers_in


class Ending:
    """Whether an act always ends from a start: the ranks of its standings, or a breach."""

    def __init__(self, act, start):
        standings = Standings(act, start)
        ranks = greatest_sums(act, {standing: answers_at(act, standing) for standing in standings})
        self.act = act
        self.start = standings.start
        self.breach = breach_of(standings, ranks)
        self.table = tuple(sorted(ranks.items())) if self.breach is None else None
        self._rows = () if self.table is None else self.table

    def __bool__(self):
        return self.breach is None

    def __len__(self):
        return len(self._rows)

    def __iter__(self):
        return iter(self._rows)


def answers_at(act, standing):
    """How many answers are given at the standing itself."""
    return 1 if rest_of(act, standing) == "ask" else 0


def breach_of(standings, ranks):
    """What keeps an act from always ending, None if nothing does; the ranks are None if there is a loop."""
    stuck = least_to_rest(standings, "stuck")
    if stuck is not None:
        return ("stuck", stuck)
    return ("loop",) + first_loop(standings, False) if ranks is None else None


def judge_ending(act, start, table):
    """None if the table is right, -1 if the first standing is lacking, otherwise the number of the first bad row."""
    judge_start(act, start)
    ranks = numbers_in(act, table)
    if (0, frozen(start)) not in ranks:
        return -1
    return first_wrong([is_right(act, row, ranks) for row in table])


def is_right(act, row, ranks):
    """Whether the row is a standing that is not stuck with its rank, and the ranks behind it go down as told."""
    if not is_numbered(act, row):
        return False
    standing = frozen(row[0])
    most = row[1] - answers_at(act, standing)
    if rest_of(act, standing) == "stuck":
        return False
    return all([follower in ranks and ranks[follower] <= most for follower in followers_of(act, standing)])
