"""Bounded prices: what an act costs at most, whatever the guests answer."""

from shownempty.acts import followers_of, judge_start
from shownempty.forms import frozen
from shownempty.loops import first_loop, greatest_sums, price_at
from shownempty.standings import Standings
from shownempty.tables import first_wrong, is_numbered, numbers_in


class Bounded:
    """Whether the price of an act is bounded from a start: the greatest prices, or a loop that costs something."""

    def __init__(self, act, start):
        standings = Standings(act, start)
        prices = greatest_sums(act, {standing: price_at(act, standing) for standing in standings})
        self.act = act
        self.start = standings.start
        self.bound = None if prices is None else prices[(0, self.start)]
        self.breach = first_loop(standings, True) if prices is None else None
        self.table = None if prices is None else tuple(sorted(prices.items()))
        self._rows = () if self.table is None else self.table

    def __bool__(self):
        return self.breach is None

    def __len__(self):
        return len(self._rows)

    def __iter__(self):
        return iter(self._rows)


def judge_bound(act, start, table):
    """None if the table is right, -1 if the first standing is lacking, otherwise the number of the first bad row."""
    judge_start(act, start)
    prices = numbers_in(act, table)
    if (0, frozen(start)) not in prices:
        return -1
    return first_wrong([is_right(act, row, prices) for row in table])


def is_right(act, row, prices):
    """Whether the row is a standing with a price that is enough for its stroke and all that follows."""
    if not is_numbered(act, row):
        return False
    standing = frozen(row[0])
    left = row[1] - price_at(act, standing)
    return all([follower in prices and prices[follower] <= left for follower in followers_of(act, standing)])
