"""Plots played against slips of the hand: positions, what can come of a manner there, and the game among them.

A stroke is a triple (manner, price, cases). A case is a triple (cue, world, made): the cue at which the stroke was
done, with the world behind it and the slips made by then; the first case is the deed that was meant, the second one, if
there is one, the slip.
"""

from shownempty.acts import is_standing, judge_start
from shownempty.deeds import moved
from shownempty.errors import Unlike
from shownempty.forms import is_row
from shownempty.games import DRAWS, PICKS
from shownempty.limits import counted, is_count, is_let, judge_limit
from shownempty.making import turn_at
from shownempty.plots import outs_fit_for
from shownempty.search import reached_from

MOST_POSITIONS = 1500


def judge_slip_arguments(plot, risks, start, most):
    """Raises what is wrong with the arguments."""
    judge_plot_and_risks(plot, risks, start)
    judge_limit(most)


def judge_plot_and_risks(plot, risks, start):
    """Raises that the risks are those of another craft, or that this is no start."""
    if not plot.craft == risks.craft:
        raise Unlike("craft")
    judge_start(plot, start)


def is_position(plot, most, thing):
    """Whether it is a triple of a standing of the plot and a number of slips."""
    return is_row(thing) and len(thing) == 3 and is_standing(plot, thing[:2]) and is_count(thing[2], most)


def strokes_at(plot, risks, most, position):
    """The strokes among which the conjuror can pick at a position, none but at a show."""
    if not is_show(plot, position):
        return []
    number, world, made = position
    cue = plot.cues[number]
    strokes = []
    for manner in plot.craft.manners_of(cue[1]):
        behind = moved(world, plot.craft.deed_of(cue[1], manner))
        if behind is not None:
            cases = [(number, behind, made)] + slips_at(risks, most, position, manner)
            strokes.append((manner, plot.craft.price_of(cue[1], manner), cases))
    return strokes


def slips_at(risks, most, position, manner):
    """The case in which the hand slips by this manner at a position, if it can."""
    number, world, made = position
    if not is_let(made, most) or manner not in risks.risky:
        return []
    behind = moved(world, risks.fail_of(manner))
    return [] if behind is None else [(number, behind, counted(made, most))]


def outs_behind(plot, case):
    """The outs that are fit in a case, each with the position to which it leads."""
    number, world, made = case
    return [(out, (target, world, made)) for out, target in outs_fit_for(plot, number, world)]


def is_show(plot, position):
    """Whether something shall be shown at the position."""
    return plot.cues[position[0]][0] == "show"


def turn_of(plot, position):
    """The turn at a position that is no show."""
    number, world, made = position
    who, ways = turn_at(plot, (number, world))
    return (who, [(price, standing + (made,)) for price, standing in ways])


def strokes_of_all(plot, risks, start, most):
    """The strokes at all positions of the game; raises that these are too many."""
    def leads(position):
        if not is_show(plot, position):
            return [behind for _, behind in turn_of(plot, position)[1]]
        return [behind for _, _, cases in strokes_at(plot, risks, most, position)
                for case in cases for _, behind in outs_behind(plot, case)]

    positions = reached_from((0, start, 0), leads, MOST_POSITIONS, "position")
    return {position: strokes_at(plot, risks, most, position) for position in positions}


def slip_game(plot, strokes, sure):
    """The game among the positions with these strokes, if the hand never slips by the sleights that are sure.

    The guests' luck draws among the cases of a stroke, and in each the conjuror picks an out.
    """
    game = {}
    for position, found in strokes.items():
        if not is_show(plot, position):
            game[position] = turn_of(plot, position)
            continue
        game[position] = (PICKS, [(price, ("stroke", position, manner)) for manner, price, _ in found])
        for manner, _, cases in found:
            come = cases[:1] if manner in sure else cases
            game[("stroke", position, manner)] = (DRAWS, [(0, ("case", case)) for case in come])
            for case in come:
                game[("case", case)] = (PICKS, [(0, behind) for _, behind in outs_behind(plot, case)])
    return game
