"""The lines of an act."""

from shownempty.acts import Act
from shownempty.errors import BadLine
from shownempty.lines import read_words, split_line, write_words

CUE_FORMS = {
    "do": ("GESTURE", "MANNER"),
    "ask": ("NO", "YES"),
    "glance": ("PLACE", "KIND", "TARGET"),
    "go": ("TARGET",),
    "end": (),
}


def write_act(act):
    """The lines of an act."""
    return tuple([write_words(cue[0], cue[1:], CUE_FORMS[cue[0]]) for cue in act.cues])


def read_act(craft, lines):
    """The act of this craft that the lines tell."""
    return Act(craft, read_act_cues(lines, 0))


def read_act_cues(lines, first):
    """The cues that the lines tell, if the first one has this number."""
    return [read_cue(number, line) for number, line in enumerate(lines, start=first)]


def read_cue(number, line):
    """The cue that the line with this number tells."""
    words = split_line(number, line)
    if words[0] not in CUE_FORMS:
        raise BadLine(number, 0)
    return (words[0],) + read_words(number, words, CUE_FORMS[words[0]])
