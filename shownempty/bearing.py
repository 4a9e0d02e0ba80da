"""How many challenges an act bears."""

from shownempty.forms import frozen
from shownempty.games import delays_of
from shownempty.limits import greatest_borne
from shownempty.parlour import Parlour, first_situation, judge_parlour, stand_game


def bears(act, start, guest, wish, challenges):
    """The greatest number of challenges with which the conjuror stands, -1 if not even with none, None if with any."""
    judge_parlour(act, start, guest, wish, challenges)
    parlour = Parlour(act, guest, wish, challenges)
    first = first_situation(parlour, frozen(start))

    def is_borne(most):
        return first not in delays_of(stand_game(parlour, frozen(start), most))

    return greatest_borne(is_borne)
