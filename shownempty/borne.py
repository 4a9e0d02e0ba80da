"""How many slips of the hand a plot bears, and which sleights must be practised so that it bears any number."""

from shownempty.forms import frozen
from shownempty.games import delays_of
from shownempty.limits import greatest_borne
from shownempty.lots import least_lots
from shownempty.slips import judge_plot_and_risks, slip_game, strokes_of_all


def borne(plot, risks, start):
    """The greatest number of slips that the plot bears, -1 if not even none, None if any number."""
    judge_plot_and_risks(plot, risks, start)
    first = (0, frozen(start), 0)

    def is_borne(most):
        return first not in delays_of(slip_game(plot, strokes_of_all(plot, risks, first[1], most), ()))

    return greatest_borne(is_borne)


def exercises(plot, risks, start):
    """The least lots of sleights that must be practised so that the plot bears any number of slips."""
    judge_plot_and_risks(plot, risks, start)
    first = (0, frozen(start), 0)
    strokes = strokes_of_all(plot, risks, first[1], None)

    def is_enough(lot):
        return first not in delays_of(slip_game(plot, strokes, lot))

    # Whoever has practised more bears all that whoever has practised less does.
    return least_lots(risks.risky, is_enough) if is_enough(risks.risky) else ()
