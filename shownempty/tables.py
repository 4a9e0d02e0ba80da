"""Tables that are judged: what stands in them, and which row is the first that is not right."""

from shownempty.acts import is_standing
from shownempty.forms import frozen, is_from, is_row


def first_wrong(rights):
    """The number of the first row that is not right, as is told for each of them, None if all are."""
    for k, right in enumerate(rights):
        if not right:
            return k
    return None


def standings_in(act, table):
    """The rows of a table that have the form of a standing."""
    return {frozen(row): True for row in table if is_standing(act, row)}


def is_numbered(act, row):
    """Whether the row is a pair of a standing (of an act, or a plot) and an integer from 0."""
    return is_row(row) and len(row) == 2 and is_standing(act, row[0]) and is_from(row[1], 0)


def numbers_in(act, table):
    """The number of each standing, as the first of its rows that is a pair with an integer from 0 tells it."""
    return first_numbers([row for row in table if is_numbered(act, row)])


def first_numbers(rows):
    """The number of each thing, as the first of its rows tells it."""
    numbers = {}
    for thing, number in rows:
        numbers.setdefault(frozen(thing), number)
    return numbers
