"""Tables of situations, which show that the conjuror stands, and of delays, which show that he does not."""

from shownempty.forms import frozen, is_from, is_row
from shownempty.limits import judge_limit
from shownempty.parlour import Parlour, answered_from, first_situation, is_broken, is_situation, judge_parlour
from shownempty.parlour import met_from, named_at
from shownempty.tables import first_numbers, first_wrong


def judge_stand(act, start, guest, wish, challenges, most, table):
    """None if the table is right, -1 if the first situation is lacking, otherwise the number of the first bad row."""
    parlour = parlour_of(act, start, guest, wish, challenges, most)
    goods = [is_situation(act, guest, most, row) for row in table]
    there = {frozen(row): True for row, good in zip(table, goods) if good}
    if first_situation(parlour, frozen(start)) not in there:
        return -1
    return first_wrong([good and is_held(parlour, most, frozen(row), there) for row, good in zip(table, goods)])


def judge_catch(act, start, guest, wish, challenges, most, table):
    """None if the table is right, -1 if the first situation is lacking, otherwise the number of the first bad row."""
    parlour = parlour_of(act, start, guest, wish, challenges, most)
    goods = [is_delayed(act, guest, most, row) for row in table]
    delays = first_numbers([row for row, good in zip(table, goods) if good])
    if first_situation(parlour, frozen(start)) not in delays:
        return -1
    return first_wrong([good and is_caught(parlour, most, frozen(row[0]), row[1], delays)
                        for row, good in zip(table, goods)])


def parlour_of(act, start, guest, wish, challenges, most):
    """The parlour of these arguments; raises what is wrong with them."""
    judge_parlour(act, start, guest, wish, challenges)
    judge_limit(most)
    return Parlour(act, guest, wish, challenges)


def is_delayed(act, guest, most, row):
    """Whether the row is a pair of a situation and an integer from 0."""
    return is_row(row) and len(row) == 2 and is_situation(act, guest, most, row[0]) and is_from(row[1], 0)


def is_held(parlour, most, situation, there):
    """Whether the situation is not broken, and each move can be met so that one comes to what is there."""
    if is_broken(parlour, situation):
        return False
    if not all([behind in there for behind in answered_from(parlour, situation)]):
        return False
    return all([any([behind in there for _, behind in met_from(parlour, most, situation, gesture)])
                for gesture in named_at(parlour, most, situation)])


def is_caught(parlour, most, situation, delay, delays):
    """Whether the situation is broken, or some move surely leads to lesser delays."""
    if is_broken(parlour, situation):
        return True
    if any([is_less(behind, delay, delays) for behind in answered_from(parlour, situation)]):
        return True
    return any([all([is_less(behind, delay, delays) for _, behind in met_from(parlour, most, situation, gesture)])
                for gesture in named_at(parlour, most, situation)])


def is_less(situation, delay, delays):
    """Whether the situation is told with a lesser delay."""
    return situation in delays and delays[situation] < delay
