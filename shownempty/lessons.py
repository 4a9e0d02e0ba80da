"""Lessons: the least lots of sleights that must be learnt for a plot."""

from shownempty.acts import judge_start
from shownempty.craft import Craft
from shownempty.forms import frozen
from shownempty.games import PICKS, delays_of
from shownempty.lots import least_lots
from shownempty.making import choices_at, game_of


def lessons(plot, start):
    """The least lots of sleights with which the plot can be done from the start."""
    judge_start(plot, start)
    first = (0, frozen(start))
    game = game_of(plot, first[1])
    choices = {standing: choices_at(plot, standing) for standing in game if plot.cues[standing[0]][0] == "show"}

    def is_enough(lot):
        return first not in delays_of(game_with(game, choices, lot))

    # Whoever has learnt more can do all that whoever has learnt less can.
    return least_lots(plot.craft.arts, is_enough) if is_enough(plot.craft.arts) else ()


def game_with(game, choices, lot):
    """The game in which only the sleights of the lot can be picked."""
    learnt = {manner: True for manner in (Craft.HONEST,) + lot}
    fewer = {standing: (PICKS, [(price, behind) for (manner, _), price, behind in found if manner in learnt])
             for standing, found in choices.items()}
    return {standing: fewer.get(standing, turn) for standing, turn in game.items()}
