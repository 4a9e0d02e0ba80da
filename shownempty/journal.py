"""The journal of a house: its deeds as lines."""

from shownempty.actlines import read_act_cues, write_act
from shownempty.acts import Act
from shownempty.craft import Craft
from shownempty.craftlines import read_craft_parts, write_craft
from shownempty.errors import BadLine, ShowError, Torn
from shownempty.house import ACT, CRAFT, STRIKE, House
from shownempty.lines import read_words, split_line, write_words
from shownempty.plotlines import read_plot_cues, write_plot
from shownempty.plots import Plot

FORMS = {
    "craft": ("NAME",),
    "act": ("NAME", "CRAFT"),
    "plot": ("NAME", "CRAFT"),
    "strike": ("NAME",),
}
CLOSE = "close"


def write_journal(house):
    """The lines that tell the deeds of the house that are not undone."""
    lines = []
    for what, name, of, thing in house.history():
        lines.append(write_words(what, (name, of), FORMS[what]))
        if what != STRIKE:
            lines.extend(lines_of(what, thing))
            lines.append(CLOSE)
    return tuple(lines)


def lines_of(what, thing):
    """The lines of a thing."""
    if what == CRAFT:
        return write_craft(thing)
    return write_act(thing) if what == ACT else write_plot(thing)


def read_journal(lines):
    """The house that the lines tell."""
    house = House()
    at = 0
    while at < len(lines):
        try:
            at = take_deed(house, lines, at)
        except ShowError as error:
            raise Torn(at) from error
    return house


def taken_up(lines):
    """The house that the longest good beginning of whole deeds tells, and how many lines this has."""
    house = House()
    at = 0
    while at < len(lines):
        try:
            at = take_deed(house, lines, at)
        except ShowError:
            return (house, at)
    return (house, at)


def take_deed(house, lines, at):
    """Does the deed that begins at the line with this number, and tells the number of the first line behind it."""
    words = split_line(at, lines[at])
    what = words[0]
    if what not in FORMS:
        raise BadLine(at, 0)
    names = read_words(at, words, FORMS[what])
    if what == STRIKE:
        house.strike(names[0])
        return at + 1
    end = number_of_close(lines, at + 1)
    told = read_thing(what, lines[at + 1:end], at + 1)
    if end == len(lines):
        raise BadLine(end, 0)
    add_thing(house, what, names, told)
    return end + 1


def number_of_close(lines, first):
    """The number of the line by which a thing ends whose first line has this number, or that of all lines."""
    for number in range(first, len(lines)):
        if isinstance(lines[number], str) and lines[number] == CLOSE:
            return number
    return len(lines)


def read_thing(what, lines, first):
    """What the lines of a thing tell, the first of which has this number."""
    if what == CRAFT:
        return read_craft_parts(lines, first)
    return read_act_cues(lines, first) if what == ACT else read_plot_cues(lines, first)


def add_thing(house, what, names, told):
    """Makes the thing of which this has been told, and adds it to the house."""
    if what == CRAFT:
        size, gestures, sleights = told
        house.keep_craft(names[0], Craft(size, gestures, sleights))
        return
    name, of = names
    if not house.has_craft(of):
        # Without its craft the thing cannot be made, so all that is wrong with it is that it cannot be added.
        house.judge_made(name, of)
    if what == ACT:
        house.keep_act(name, of, Act(house[of], told))
    else:
        house.keep_plot(name, of, Plot(house[of], told))
