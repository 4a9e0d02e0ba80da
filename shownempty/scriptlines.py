"""The lines of a script."""

from shownempty.errors import BadLine
from shownempty.lines import read_words, split_line, write_words
from shownempty.scripts import Script, bodies_of

FORMS = {
    "do": ("GESTURE", "MANNER"),
    "either": (),
    "or": (),
    "again": (),
    "peek": ("PLACE", "KIND"),
    "else": (),
    "end": (),
    "stop": (),
}
OPENING = ("either", "again", "peek")
# What stands between the two bodies of a statement.
BETWEEN = {"either": "or", "peek": "else"}


class Block:
    """A statement whose bodies are being read; the whole script is one that nothing tells."""

    def __init__(self, told):
        self.told = told
        self.bodies = [[]]

    def lets(self, word):
        """Whether a line that begins with this word can come next."""
        if word == "or" or word == "else":
            return len(self.bodies) == 1 and BETWEEN.get(self.told[0], "") == word
        if word == "end":
            return self.is_whole_statement()
        return word in FORMS

    def is_whole_statement(self):
        """Whether the statement can end here."""
        if self.told[0] == "either":
            return len(self.bodies) == 2
        if self.told[0] == "peek":
            # An empty other body has no line that announces it.
            return len(self.bodies) == 1 or len(self.bodies[1]) > 0
        return self.told[0] == "again"

    def statement(self):
        """The statement that has been read."""
        bodies = [tuple(body) for body in self.bodies]
        if self.told[0] == "peek" and len(bodies) == 1:
            bodies.append(())
        return self.told + tuple(bodies)


def write_script(script):
    """The lines of a script."""
    return tuple(lines_of_body(script.body))


def lines_of_body(body):
    """The lines of the statements of a body."""
    lines = []
    for statement in body:
        lines.extend(lines_of(statement))
    return lines


def lines_of(statement):
    """The lines of a statement."""
    what = statement[0]
    lines = [write_words(what, statement[1:], FORMS[what])]
    if what not in OPENING:
        return lines
    bodies = bodies_of(statement)
    lines.extend(lines_of_body(bodies[0]))
    if what == "either" or what == "peek" and len(bodies[1]) > 0:
        lines.append(BETWEEN[what])
        lines.extend(lines_of_body(bodies[1]))
    lines.append("end")
    return lines


def read_script(craft, lines):
    """The script of this craft that the lines tell."""
    # Lines can be nested more deeply than calls should be, so the blocks that are not ended are kept here.
    blocks = [Block(("",))]
    for number, line in enumerate(lines):
        words = split_line(number, line)
        if not blocks[-1].lets(words[0]):
            raise BadLine(number, 0)
        take_line(blocks, (words[0],) + read_words(number, words, FORMS[words[0]]))
    if len(blocks) > 1:
        raise BadLine(len(lines), 0)
    return Script(craft, blocks[0].bodies[0])


def take_line(blocks, told):
    """Goes on with the blocks by what a line tells that can come next."""
    what = told[0]
    if what in OPENING:
        blocks.append(Block(told))
    elif what == "or" or what == "else":
        blocks[-1].bodies.append([])
    elif what == "end":
        ended = blocks.pop()
        blocks[-1].bodies[-1].append(ended.statement())
    else:
        blocks[-1].bodies[-1].append(told)
