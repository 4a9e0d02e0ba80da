"""How many challenges an act bears."""

from shownempty.forms import frozen
from shownempty.games import delays_of
from shownempty.limits import greatest_borne
from shownempty.parlour import Parlour, first_situation, judge_parlour, situations_of, stand_game


def bears(act, start, guest, wish, challenges):
    """The greatest number of challenges with which the conjuror stands, -1 if not even with none, None if with any."""
    judge_parlour(act, start, guest, wish, challenges)
    parlour = Parlour(act, guest, wish, challenges)
    begun = frozen(start)
    first = first_situation(parlour, begun)

    def is_borne(most):
        situations = situations_of(parlour, begun, most)
        return first not in delays_of(stand_game(parlour, situations, most))

    return greatest_borne(is_borne)
