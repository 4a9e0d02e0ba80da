"""Pairs of acts that are seen alike, whatever the guests answer."""

from shownempty.acts import is_standing, rest_of
from shownempty.errors import BadWorld
from shownempty.forms import frozen, is_row
from shownempty.passages import Passages
from shownempty.search import least_row, least_rows
from shownempty.tables import first_wrong
from shownempty.worlds import is_world

MOST_PAIRS = 600


class ActPair:
    """Whether two acts are seen alike from their starts: their pairs, or the least answers that part them."""

    def __init__(self, first, start, second, other):
        judge_starts(first, start, second, other)
        self.first = first
        self.start = frozen(start)
        self.second = second
        self.other = frozen(other)
        pairs, self.answers = compared(Passages(first), self.start, Passages(second), self.other)
        self.table = tuple(sorted(pairs)) if self.answers is None else None
        self._rows = () if self.table is None else self.table

    def __bool__(self):
        return self.answers is None

    def __len__(self):
        return len(self._rows)

    def __iter__(self):
        return iter(self._rows)


def judge_starts(first, start, second, other):
    """Raises that one of the starts is none of its act."""
    if not is_world(start, first.craft.size):
        raise BadWorld(start)
    if not is_world(other, second.craft.size):
        raise BadWorld(other)


def compared(first, start, second, other):
    """The pairs of two acts whose passages these are, and the least answers that part them, None if none do."""
    def ways(pair):
        return [(answer, behind) for answer, behind, _ in ways_from(first, second, pair) if behind is not None]

    passage, beside = first.from_start(start), second.from_start(other)
    begun = pair_of(passage, beside)
    pairs = least_rows([] if begun is None else [("", begun)], ways, MOST_PAIRS, "pair")
    if not are_alike(passage, beside):
        return list(pairs), ""
    return list(pairs), least_row([row + answer for pair, row in pairs.items()
                                   for answer, _, alike in ways_from(first, second, pair) if not alike])


def ways_from(first, second, pair):
    """For each answer at a pair, the pair behind it, or None, and whether the two show the same up to there."""
    standing, other = pair
    return [(answer, pair_of(passage, beside), are_alike(passage, beside))
            for answer, passage, beside in zip("01", first.behind(standing), second.behind(other))]


def are_alike(passage, beside):
    """Whether two runs have the same events and the same rest."""
    return passage[:2] == beside[:2]


def pair_of(passage, beside):
    """The pair of the standings at an ask to which two runs lead that show the same, None if there is none."""
    if not are_alike(passage, beside) or passage[1] != "ask":
        return None
    return (passage[2], beside[2])


def judge_pairs(first, start, second, other, table):
    """None if the table is closed, otherwise the number of the first bad row.

    -1 if the runs from the first standings show unlike things, or the pair to which they lead is lacking.
    """
    judge_starts(first, start, second, other)
    there = {frozen(row): True for row in table if is_pair(first, second, row)}
    passages, others = Passages(first), Passages(second)
    if not is_found(passages.from_start(frozen(start)), others.from_start(frozen(other)), there):
        return -1
    return first_wrong([is_pair(first, second, row) and is_right(passages, others, frozen(row), there)
                        for row in table])


def is_pair(first, second, thing):
    """Whether it is a pair of standings at an ask, each of its act."""
    return is_row(thing) and len(thing) == 2 and is_asking(first, thing[0]) and is_asking(second, thing[1])


def is_asking(act, thing):
    """Whether it is a standing at an ask."""
    return is_standing(act, thing) and rest_of(act, frozen(thing)) == "ask"


def is_found(passage, beside, there):
    """Whether two runs show the same, and the pair to which they lead is there, if they do."""
    pair = pair_of(passage, beside)
    return are_alike(passage, beside) and (pair is None or pair in there)


def is_right(first, second, pair, there):
    """Whether the runs behind each answer show the same, and the pairs to which they lead are there."""
    standing, other = pair
    return all([is_found(passage, beside, there)
                for passage, beside in zip(first.behind(standing), second.behind(other))])
