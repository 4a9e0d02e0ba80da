"""Scripts: acts that are written in statements with bodies."""

from shownempty.acts import is_do, is_look
from shownempty.errors import BadStatement, TooLong
from shownempty.forms import begins_with_word, frozen, is_row

MOST_BODIES = 5
MOST_STATEMENTS = 40


class Script:
    """A craft and a body, whose statements are done one after the other."""

    def __init__(self, craft, body):
        if not is_row(body):
            raise BadStatement(-1)
        found = []
        judge_body(craft, body, 0, found)
        if len(found) > MOST_STATEMENTS:
            raise TooLong(len(found))
        self.craft = craft
        self.body = frozen(body)
        self._found = frozen(found)

    def __len__(self):
        return len(self._found)

    def __eq__(self, other):
        return isinstance(other, Script) and self.craft == other.craft and self.body == other.body

    def statements(self):
        """All statements, in the order of their numbers."""
        yield from self._found


def judge_body(craft, body, bodies, found):
    """Adds to what was found the statements of a body that stands in so many bodies besides the whole one.

    Raises the first of them that is wrong.
    """
    for statement in body:
        if bodies > MOST_BODIES or not is_statement(craft, statement):
            raise BadStatement(len(found))
        found.append(statement)
        for inner in bodies_of(statement):
            judge_body(craft, inner, bodies + 1, found)


def is_statement(craft, thing):
    """Whether it has the form of a statement in itself."""
    if not begins_with_word(thing):
        return False
    what = thing[0]
    if what == "do":
        return is_do(craft, thing)
    if what == "either":
        return len(thing) == 3 and are_rows(thing[1:])
    if what == "again":
        return len(thing) == 2 and are_rows(thing[1:])
    if what == "peek":
        return len(thing) == 5 and is_look(craft, thing[1], thing[2]) and are_rows(thing[3:])
    return what == "stop" and len(thing) == 1


def are_rows(things):
    """Whether all are tuples."""
    return all([is_row(thing) for thing in things])


def bodies_of(statement):
    """The bodies of a statement, in order."""
    what = statement[0]
    if what == "either" or what == "again":
        return statement[1:]
    return statement[3:] if what == "peek" else ()
