"""Deeds that are alike, the least world that parts two, and the short deed of a deed."""

from shownempty.deeds import ALL, EXCHANGE, is_deed, moved
from shownempty.errors import BadDeed, BadSize
from shownempty.forms import frozen, is_kind
from shownempty.senses import sense, sense_of
from shownempty.worlds import all_worlds, is_size

LETTERS = "abcdefghijklmnopqrstuvwxyz"


class DeedPair:
    """Two deeds of a size, and the least world in which they do not do alike."""

    def __init__(self, size, first, second):
        if not is_size(size):
            raise BadSize(size)
        for deed in (first, second):
            if not is_deed(deed, size):
                raise BadDeed(deed)
        self.size = size
        self.first = frozen(first)
        self.second = frozen(second)
        self.world = least_parting(size, self.first, self.second)

    def __bool__(self):
        return self.world is None


def least_parting(size, first, second):
    """The least world that parts two deeds, None if they are alike."""
    if sense_of(size, first) == sense_of(size, second):
        return None
    kinds = kinds_of(first + second)
    kinds.append(first_other(kinds))
    words = [""]
    worlds = parting_worlds(size, words, first, second)
    # Each step needs one thing at the most, so three things are enough to part deeds that are not alike.
    while len(worlds) == 0:
        words = [word + kind for word in words for kind in kinds if word[-1:] <= kind]
        worlds = parting_worlds(size, words, first, second)
    return min(worlds)


def kinds_of(deed):
    """The kinds that the deed names, each once."""
    return sorted({what for what, _, _ in deed if is_kind(what)})


def first_other(kinds):
    """The first letter that is none of the kinds."""
    return [letter for letter in LETTERS if letter not in kinds][0]


def parting_worlds(size, words, first, second):
    """For each word by whose things the deeds are parted, the first world of these things that does it."""
    worlds = [first_parting(size, word, first, second) for word in words]
    return [world for world in worlds if world is not None]


def first_parting(size, word, first, second):
    """The first world with just the things of the word that parts the deeds, or None."""
    for world in all_worlds(size, word):
        if moved(world, first) != moved(world, second):
            return world
    return None


def short_deed(size, deed):
    """The first deed of those with the fewest steps that are alike to the deed, itself if none has fewer steps."""
    told = sense(size, deed)
    kinds = kinds_of(deed)
    # A deed that can be done needs things of each kind that it names, so only deeds with the same kinds are alike to
    # it. Those that can never be done are alike whatever they name, and the first of them names the first letter.
    if told is None:
        kinds = ["a"]
    for many in range(len(kinds), len(deed)):
        for other in deeds_of(size, kinds, many):
            if kinds_of(other) == kinds and sense_of(size, other) == told:
                return other
    return frozen(deed)


def deeds_of(size, kinds, many):
    """The deeds with so many steps that name no other kinds, ascending."""
    places = list(range(size))
    steps = [(what, source, goal) for what in sorted([ALL, EXCHANGE] + kinds)
             for source in places for goal in places if source != goal]
    deeds = [()]
    for _ in range(many):
        deeds = [deed + (step,) for deed in deeds for step in steps]
    return deeds
