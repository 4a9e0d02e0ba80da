"""Spoilers: the least lots of sleights that a guest needs to know to explain an act."""

from shownempty.acts import judge_start
from shownempty.forms import frozen
from shownempty.guests import Guest, judge_held, judge_most
from shownempty.lots import least_lots
from shownempty.thoughts import least_thoughts, least_to_bad
from shownempty.wonders import is_empty


def spoilers(act, start, held, most):
    """The least lots of sleights that spoil the wonder."""
    judge_start(act, start)
    judge_held(act.craft, held)
    judge_most(most)

    def spoils(lot):
        thoughts = least_thoughts(act, frozen(start), Guest(act.craft, held, lot, most))
        return least_to_bad(act, thoughts, "end", is_empty) is not None

    return least_lots(act.craft.arts, spoils)
