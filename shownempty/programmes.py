"""Programmes: evenings whose acts come in an order that is told beforehand."""

from shownempty.errors import BadOrder, Unreached
from shownempty.evenings import NO_VALUE, best_calls, value_of
from shownempty.forms import frozen, is_row


def order_value(evening, order, world=None):
    """The least price that is enough for the acts in this order, from the world or the start; -1 if none is."""
    if not is_order(evening, order):
        raise BadOrder(order)
    if world is not None and world not in evening:
        raise Unreached(world)
    known = evening.start if world is None else frozen(world)
    return values_for(evening, frozen(order), values_at_last(evening))[known]


def cheapest_programme(evening):
    """The value and the first of the orders of all acts with the least value, None if none has one."""
    known = values_at_last(evening)
    orders = orders_of([piece[0] for piece in evening])
    found = [(values_for(evening, order, known)[evening.start], order) for order in orders]
    good = [programme for programme in found if programme[0] != NO_VALUE]
    return min(good) if len(good) > 0 else None


def is_order(evening, thing):
    """Whether it is a tuple of different names of pieces."""
    names = [piece[0] for piece in evening]
    if not is_row(thing) or not all([isinstance(name, str) and name in names for name in thing]):
        return False
    return len(set(thing)) == len(thing)


def orders_of(names):
    """All orders of the names."""
    orders = [()]
    for _ in names:
        orders = [order + (name,) for order in orders for name in names if name not in order]
    return orders


def values_at_last(evening):
    """For the order without names, the value of each world."""
    return {(): {world: 0 for world in evening.worlds}}


def values_for(evening, order, known):
    """The value of each world for the order; what is found out for an order is kept with what is known."""
    if order not in known:
        calls = best_calls(evening, order[0], values_for(evening, order[1:], known))
        known[order] = {world: value_of([calls.get(world)]) for world in evening.worlds}
    return known[order]
