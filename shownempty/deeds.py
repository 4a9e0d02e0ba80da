"""Deeds: what is truly done with the things that lie somewhere."""

from shownempty.errors import BadDeed, BadWorld
from shownempty.forms import is_kind, is_row, is_whole
from shownempty.worlds import is_size, is_world

MOST_STEPS = 3
ALL = "*"
EXCHANGE = "~"


def is_deed(thing, size):
    """Whether it is a deed of this size."""
    if not is_size(size) or not is_row(thing) or len(thing) > MOST_STEPS:
        return False
    return all([is_step(step, size) for step in thing])


def is_step(thing, size):
    """Whether it is a step between two places of this size."""
    if not is_row(thing) or len(thing) != 3:
        return False
    what, source, goal = thing
    if not is_whole(source, 0, size - 1) or not is_whole(goal, 0, size - 1):
        return False
    return can_go(what) and source != goal


def can_go(thing):
    """Whether it tells what goes by a step."""
    return is_kind(thing) or isinstance(thing, str) and thing in (ALL, EXCHANGE)


def done(world, deed):
    """The world behind the deed, None if it cannot be done."""
    if not is_row(world) or not is_world(world, len(world)):
        raise BadWorld(world)
    if not is_deed(deed, len(world)):
        raise BadDeed(deed)
    return moved(world, deed)


def moved(world, deed):
    """As done, for a world and a deed that are known to be right."""
    words = list(world)
    for what, source, goal in deed:
        if what == EXCHANGE:
            words[source], words[goal] = words[goal], words[source]
        elif what == ALL:
            words[goal] = one_word(words[source] + words[goal])
            words[source] = ""
        elif what in words[source]:
            words[source] = words[source].replace(what, "", 1)
            words[goal] = one_word(words[goal] + what)
        else:
            return None
    return tuple(words)


def one_word(letters):
    """The word of these letters."""
    return "".join(sorted(letters))
