"""Tables that show for what price a plot can be done, that it cannot be done, or that no price is enough."""

from shownempty.acts import judge_start
from shownempty.forms import frozen
from shownempty.games import PICKS
from shownempty.making import turn_at
from shownempty.tables import first_wrong, is_numbered, numbers_in


def judge_prices(plot, start, table):
    """None if the table is right, -1 if the first standing is lacking, otherwise the number of the first bad row."""
    return judge_numbers(plot, start, table, is_enough)


def judge_losses(plot, start, table):
    """None if the table is right, -1 if the first standing is lacking, otherwise the number of the first bad row."""
    return judge_numbers(plot, start, table, is_loss)


def judge_dear(plot, start, table):
    """None if the table is right, -1 if the first standing is lacking, otherwise the number of the first bad row."""
    return judge_numbers(plot, start, table, is_dear)


def judge_numbers(plot, start, table, is_right):
    """As the functions above; is_right tells of a turn and a number whether they are right among all numbers."""
    judge_start(plot, start)
    numbers = numbers_in(plot, table)
    if (0, frozen(start)) not in numbers:
        return -1
    return first_wrong([is_numbered(plot, row) and is_right(turn_at(plot, frozen(row[0])), row[1], numbers)
                        for row in table])


def is_enough(turn, price, prices):
    """Whether one can go on from a turn for this price, if these prices are enough behind it."""
    who, ways = turn
    goods = [behind in prices and prices[behind] <= price - cost for cost, behind in ways]
    return any(goods) if who == PICKS else all(goods)


def is_loss(turn, delay, delays):
    """Whether a turn is lost within this delay, if these delays are told behind it."""
    who, ways = turn
    found = [delays.get(behind) for _, behind in ways]
    if who == PICKS:
        return all([later is not None and later <= delay for later in found])
    return any([later is not None and later < delay for later in found])


def is_dear(turn, delay, delays):
    """Whether a turn must be paid for, or is lost, within this delay, if these delays are told behind it."""
    who, ways = turn
    if who != PICKS:
        return is_loss(turn, delay, delays)
    return all([behind in delays and (cost > 0 or delays[behind] <= delay) for cost, behind in ways])
