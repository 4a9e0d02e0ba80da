"""The plain forms of what is passed: integers, tuples, lots, kinds and names."""

MOST_IN_NAME = 8


def is_from(thing, low):
    """Whether it is an integer from low on."""
    # To Python True is 1 and False is 0; to the document they are no integers.
    if not isinstance(thing, int) or isinstance(thing, bool):
        return False
    return low <= thing


def is_whole(thing, low, high):
    """Whether it is an integer from low to high."""
    return is_from(thing, low) and thing <= high


def is_row(thing):
    """Whether it is a tuple, or a list in the place of one."""
    return isinstance(thing, (tuple, list))


def begins_with_word(thing):
    """Whether it is a tuple whose first thing is a string, as those of cues and statements."""
    return is_row(thing) and len(thing) > 0 and isinstance(thing[0], str)


def is_lot(thing, low, high):
    """Whether it is a lot of integers from low to high."""
    return is_row(thing) and all([is_whole(part, low, high) for part in thing]) and is_ascending(thing)


def is_ascending(things):
    """Whether each of the things is greater than the one ahead of it."""
    return all([things[k] < things[k + 1] for k in range(len(things) - 1)])


def is_kind(thing):
    """Whether it is a letter from a to z."""
    return isinstance(thing, str) and len(thing) == 1 and "a" <= thing <= "z"


def is_name(thing):
    """Whether it is a string of 1 to 8 letters from a to z."""
    if not isinstance(thing, str) or not 1 <= len(thing) <= MOST_IN_NAME:
        return False
    return all([is_kind(letter) for letter in thing])


def frozen(thing):
    """The thing with tuples in the place of its lists, at every depth."""
    if is_row(thing):
        return tuple([frozen(part) for part in thing])
    return thing
