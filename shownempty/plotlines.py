"""The lines of a plot."""

from shownempty.errors import BadLine
from shownempty.lines import read_words, split_line, write_words
from shownempty.plots import MOST_OUTS, Plot

CUE_FORMS = {
    "ask": ("NO", "YES"),
    "end": ("WISH",),
}
OUT_FORMS = ("SIGHT", "TARGET")


def write_plot(plot):
    """The lines of a plot."""
    return tuple([write_cue(cue) for cue in plot.cues])


def write_cue(cue):
    """The line of a cue."""
    if cue[0] != "show":
        return write_words(cue[0], cue[1:], CUE_FORMS[cue[0]])
    _, gesture, outs = cue
    things = [gesture]
    for out in outs:
        things.extend(out)
    return write_words("show", things, show_forms(len(outs)))


def read_plot(craft, lines):
    """The plot of this craft that the lines tell."""
    return Plot(craft, read_plot_cues(lines, 0))


def read_plot_cues(lines, first):
    """The cues that the lines tell, if the first one has this number."""
    return [read_cue(number, line) for number, line in enumerate(lines, start=first)]


def read_cue(number, line):
    """The cue that the line with this number tells."""
    words = split_line(number, line)
    if words[0] == "show":
        return read_show(number, words)
    if words[0] not in CUE_FORMS:
        raise BadLine(number, 0)
    return (words[0],) + read_words(number, words, CUE_FORMS[words[0]])


def read_show(number, words):
    """The show that the words tell, with all outs that they begin."""
    begun = (len(words) - 1) // 2
    told = read_words(number, words, show_forms(min(max(begun, 1), MOST_OUTS)))
    outs = [(told[k], told[k + 1]) for k in range(1, len(told), 2)]
    return ("show", told[0], tuple(outs))


def show_forms(many):
    """The forms of the words of a show with so many outs."""
    return ("GESTURE",) + OUT_FORMS * many
