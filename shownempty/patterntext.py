"""The texts of patterns, and so of worlds."""

from shownempty.errors import BadPattern, BadText
from shownempty.forms import is_kind
from shownempty.worlds import MOST_LETTERS, MOST_SIZE, is_pattern

NO_ITEMS = "."
NO_THING = "-"
ANY_WORD = "?"


def write_pattern(pattern):
    """The text of a pattern."""
    if not is_pattern(pattern):
        raise BadPattern(pattern)
    if len(pattern) == 0:
        return NO_ITEMS
    return ",".join([write_item(item) for item in pattern])


def write_item(item):
    """The text of an item of a pattern."""
    if item is None:
        return ANY_WORD
    return NO_THING if item == "" else item


def read_pattern(text):
    """The pattern that the text tells."""
    if not isinstance(text, str):
        raise BadText(-1)
    if text == NO_ITEMS:
        return ()
    if text.startswith(NO_ITEMS):
        raise BadText(1)
    for at in range(len(text)):
        if not can_stand(text, at):
            raise BadText(at)
    if text == "" or text.endswith(","):
        raise BadText(len(text))
    return tuple([read_item(item) for item in text.split(",")])


def read_item(text):
    """The item of a pattern that its text tells."""
    if text == ANY_WORD:
        return None
    return "" if text == NO_THING else text


def can_stand(text, at):
    """Whether the character can stand there in a text of items, if all ahead of it are good."""
    character = text[at]
    begins = at == 0 or text[at - 1] == ","
    if character == ",":
        return not begins and text[:at].count(",") < MOST_SIZE - 1
    if is_kind(character):
        rises = begins or is_kind(text[at - 1]) and text[at - 1] <= character
        return rises and letters_in(text[:at]) < MOST_LETTERS
    return begins and (character == NO_THING or character == ANY_WORD)


def letters_in(text):
    """How many letters the text has."""
    return len([character for character in text if is_kind(character)])
