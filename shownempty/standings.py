"""The standings of an act: all to which answers lead."""

from shownempty.acts import followers_of, is_standing
from shownempty.errors import BadWorld, NoStanding, TooMany
from shownempty.forms import frozen
from shownempty.worlds import is_world

MOST_STANDINGS = 600


class Standings:
    """The standings of an act from a start, each with the least answers that lead to it."""

    def __init__(self, act, start):
        if not is_world(start, act.craft.size):
            raise BadWorld(start)
        self.act = act
        self.start = frozen(start)
        self._least = least_answers(act, self.start)
        self._rows = tuple(sorted(list(self._least)))

    def __len__(self):
        return len(self._rows)

    def __iter__(self):
        return iter(self._rows)

    def __contains__(self, x):
        return is_standing(self.act, x) and frozen(x) in self._least

    def __getitem__(self, at):
        if at not in self:
            raise NoStanding(at)
        return self._least[frozen(at)]


def least_answers(act, start):
    """The least answers that lead to each standing, for all to which answers lead."""
    least = {}
    asks = []
    go_on(act, (0, start), "", least, asks)
    k = 0
    # The asks come in the order of their answers, so that whatever is found is found by its least ones.
    while k < len(asks):
        no, yes = followers_of(act, asks[k])
        answers = least[asks[k]]
        go_on(act, no, answers + "0", least, asks)
        go_on(act, yes, answers + "1", least, asks)
        k += 1
    return least


def go_on(act, standing, answers, least, asks):
    """Adds what is new of the run from the standing to which the answers lead, and the ask at its end."""
    while standing not in least:
        least[standing] = answers
        if len(least) > MOST_STANDINGS:
            raise TooMany("standing")
        followers = followers_of(act, standing)
        if len(followers) == 2:
            asks.append(standing)
        elif len(followers) == 1:
            standing = followers[0]


def least_row(rows):
    """The least of some rows of answers, None if there are none."""
    if len(rows) == 0:
        return None
    return min([(len(row), row) for row in rows])[1]


def standings_in(act, table):
    """The rows of a table that have the form of a standing."""
    return {frozen(row): True for row in table if is_standing(act, row)}
