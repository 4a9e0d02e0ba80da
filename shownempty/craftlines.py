"""The lines of a craft."""

from shownempty.craft import Craft
from shownempty.errors import BadLine
from shownempty.lines import read_words, split_line, write_words

CRAFT_FORMS = ("SIZE",)
GESTURE_FORMS = ("NAME", "MEANING", "SHOWN")
SLEIGHT_FORMS = ("NAME", "GESTURE", "DEED", "PRICE", "SPOTS")


def write_craft(craft):
    """The lines of a craft."""
    lines = [write_words("craft", (craft.size,), CRAFT_FORMS)]
    lines.extend([write_words("gesture", gesture, GESTURE_FORMS) for gesture in craft.gestures])
    lines.extend([write_words("sleight", sleight, SLEIGHT_FORMS) for sleight in craft.sleights])
    return tuple(lines)


def read_craft(lines):
    """The craft that the lines tell."""
    size, gestures, sleights = read_craft_parts(lines, 0)
    return Craft(size, gestures, sleights)


def read_craft_parts(lines, first):
    """The size, the gestures and the sleights that the lines tell, if the first one has this number."""
    if len(lines) == 0:
        raise BadLine(first, 0)
    size = read_size(first, lines[0])
    gestures = []
    sleights = []
    for number, line in enumerate(lines[1:], start=first + 1):
        words = split_line(number, line)
        if words[0] == "gesture" and len(sleights) == 0:
            gestures.append(read_words(number, words, GESTURE_FORMS))
        elif words[0] == "sleight":
            sleights.append(read_words(number, words, SLEIGHT_FORMS))
        else:
            raise BadLine(number, 0)
    return (size, gestures, sleights)


def read_size(number, line):
    """The size that the first line of a craft tells."""
    words = split_line(number, line)
    if words[0] != "craft":
        raise BadLine(number, 0)
    return read_words(number, words, CRAFT_FORMS)[0]
