"""The words of which lines are made, each read by the form that it is to have."""

from shownempty.deedtext import read_deed, write_deed
from shownempty.errors import BadLine, BadText
from shownempty.forms import is_kind, is_name
from shownempty.patterntext import read_pattern, write_pattern

# The forms have the names that the document gives them.
BOUNDS = {"SIZE": (2, 6), "PRICE": (1, 9), "PLACE": (0, 5), "NO": (0, 59), "YES": (0, 59), "TARGET": (0, 59)}
MOST_DIGIT = {"SHOWN": 5, "SPOTS": 6}
DEEDS = ("MEANING", "DEED")
PATTERNS = ("SIGHT", "WISH")
DIGITS = "0123456789"
NOTHING = "-"


def split_line(number, line):
    """The words of the line with this number."""
    if not isinstance(line, str):
        raise BadLine(number, 0)
    return line.split(" ")


def read_words(number, words, forms):
    """What the words of a line behind its first one tell, if they have these forms."""
    things = []
    for at, form in enumerate(forms, start=1):
        if at == len(words):
            raise BadLine(number, at)
        things.append(read_word(number, at, words[at], form))
    if len(words) > len(forms) + 1:
        raise BadLine(number, len(forms) + 1)
    return tuple(things)


def read_word(number, at, word, form):
    """What the word of a line tells."""
    try:
        thing = thing_of(word, form)
    except BadText as error:
        raise BadLine(number, at) from error
    if thing is None:
        raise BadLine(number, at)
    return thing


def thing_of(word, form):
    """What a word of this form tells, None if it is bad; a bad text of a deed or a pattern raises its own error."""
    if form in BOUNDS:
        low, high = BOUNDS[form]
        return whole_of(word, low, high)
    if form in MOST_DIGIT:
        return lot_of(word, MOST_DIGIT[form])
    if form in DEEDS:
        return read_deed(word)
    if form in PATTERNS:
        return read_pattern(word)
    if form == "MANNER" and word == NOTHING:
        return ""
    if form == "KIND":
        return word if is_kind(word) else None
    return word if is_name(word) else None


def whole_of(word, low, high):
    """The integer within the bounds that is written so, or None."""
    for number in range(low, high + 1):
        if word == str(number):
            return number
    return None


def lot_of(word, high):
    """The lot of digits up to this one that is written so, or None."""
    if word == NOTHING:
        return ()
    digits = [DIGITS.find(character) for character in word]
    lot = [digit for digit in range(high + 1) if digit in digits]
    return tuple(lot) if lot == digits and word != "" else None


def write_words(first, things, forms):
    """The line with this first word that tells these things in these forms."""
    return " ".join([first] + [word_of(thing, form) for thing, form in zip(things, forms)])


def word_of(thing, form):
    """The word of this form that tells the thing."""
    if form in BOUNDS:
        return str(thing)
    if form in MOST_DIGIT:
        return "".join([str(digit) for digit in thing]) if len(thing) > 0 else NOTHING
    if form in DEEDS:
        return write_deed(thing)
    if form in PATTERNS:
        return write_pattern(thing)
    if form == "MANNER" and thing == "":
        return NOTHING
    return thing
