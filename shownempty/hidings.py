"""Hidings: the fewest things to be hidden beforehand so that a plot can be done."""

from shownempty.acts import judge_start
from shownempty.deeds import one_word
from shownempty.errors import BadExtra, BadMost
from shownempty.forms import frozen, is_kind, is_row, is_whole
from shownempty.making import can_be_done
from shownempty.worlds import is_world

MOST_EXTRAS = 6
MOST_HIDDEN = 3


def hidings(plot, start, extras, most):
    """The least number of extras with which the plot can be done, with all worlds made so from which it can be."""
    judge_start(plot, start)
    judge_extras(plot.craft.size, extras)
    if not is_whole(most, 0, MOST_HIDDEN):
        raise BadMost(most)
    worlds = [frozen(start)]
    for number in range(most + 1):
        good = [world for world in worlds if can_be_done(plot, world)]
        if len(good) > 0:
            return (number, tuple(good))
        worlds = with_one_more(worlds, extras)
    return None


def judge_extras(size, extras):
    """Raises what is wrong with the extras."""
    if not is_row(extras) or not 1 <= len(extras) <= MOST_EXTRAS:
        raise BadExtra(-1)
    for k, extra in enumerate(extras):
        if not is_extra(extra, size) or k > 0 and frozen(extra) <= frozen(extras[k - 1]):
            raise BadExtra(k)


def is_extra(thing, size):
    """Whether it is a pair of a kind and a place of this size."""
    return is_row(thing) and len(thing) == 2 and is_kind(thing[0]) and is_whole(thing[1], 0, size - 1)


def with_one_more(worlds, extras):
    """The worlds that are made of these by putting in one thing more, ascending."""
    made = sorted(set([put_in(world, kind, place) for world in worlds for kind, place in extras]))
    return [world for world in made if is_world(world, len(world))]


def put_in(world, kind, place):
    """The words that lie there when a thing of the kind has been put into the place."""
    return world[:place] + (one_word(world[place] + kind),) + world[place + 1:]
