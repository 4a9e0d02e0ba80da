"""Words, worlds and patterns: what lies where."""

from shownempty.errors import BadPattern, BadSize, BadWord
from shownempty.forms import is_kind, is_row, is_whole

LEAST_SIZE = 2
MOST_SIZE = 6
MOST_LETTERS = 8


def is_size(thing):
    """Whether it is a number of places."""
    return is_whole(thing, LEAST_SIZE, MOST_SIZE)


def is_word(thing):
    """Whether it is a string of kinds in rising order."""
    if not isinstance(thing, str) or not all([is_kind(letter) for letter in thing]):
        return False
    return list(thing) == sorted(thing)


def is_world(thing, size):
    """Whether it is a world of this size."""
    if not is_size(size) or not is_row(thing) or len(thing) != size:
        return False
    return are_few_words(thing)


def is_pattern(thing):
    """Whether it is a tuple of words and Nones of the length told, with few enough letters."""
    if not is_row(thing) or len(thing) > MOST_SIZE:
        return False
    return are_few_words([item for item in thing if item is not None])


def is_wish(thing, size):
    """Whether it is a pattern with an item for each place of this size."""
    return is_pattern(thing) and len(thing) == size


def are_few_words(things):
    """Whether all are words, and a world or a pattern can have so many letters."""
    if not all([is_word(thing) for thing in things]):
        return False
    return sum([len(word) for word in things]) <= MOST_LETTERS


def fits(words, pattern):
    """Whether a tuple of words fits a pattern."""
    if not is_pattern(pattern):
        raise BadPattern(pattern)
    if not is_row(words) or len(words) != len(pattern):
        return False
    return all([item is None or item == word for word, item in zip(words, pattern)])


def all_worlds(size, word):
    """All worlds of the size with just the things of the word, ascending."""
    if not is_size(size):
        raise BadSize(size)
    if not is_word(word) or len(word) > MOST_LETTERS:
        raise BadWord(word)
    yield from spread_over(size, word)


def spread_over(places, word):
    """All ways to lay the things of the word into so many places, ascending."""
    if places == 1:
        yield (word,)
        return
    others = places - 1
    for first in parts_of(word):
        left = word_without(word, first)
        for rest in spread_over(others, left):
            yield (first,) + rest


def parts_of(word):
    """The words whose things are all among those of the word, ascending."""
    parts = [""]
    for letter in word:
        parts = parts + [part + letter for part in parts]
    return sorted(set(parts))


def word_without(word, part):
    """The word of the things that are left when those of the part are taken away."""
    left = list(word)
    for letter in part:
        left.remove(letter)
    return "".join(left)
