"""The standings of an act: all to which answers lead."""

from shownempty.acts import followers_of, is_standing, judge_start, rest_of
from shownempty.errors import NoStanding
from shownempty.forms import frozen
from shownempty.search import answered, least_row, least_rows

MOST_STANDINGS = 600


class Standings:
    """The standings of an act from a start, each with the least answers that lead to it."""

    def __init__(self, act, start):
        judge_start(act, start)
        self.act = act
        self.start = frozen(start)
        self._least = least_answers(act, self.start)
        self._rows = tuple(sorted(list(self._least)))

    def __len__(self):
        return len(self._rows)

    def __iter__(self):
        return iter(self._rows)

    def __contains__(self, x):
        return is_standing(self.act, x) and frozen(x) in self._least

    def __getitem__(self, at):
        if at not in self:
            raise NoStanding(at)
        return self._least[frozen(at)]


def least_answers(act, start):
    """The least answers that lead to each standing, for all to which answers lead."""
    def ways(standing):
        return answered(followers_of(act, standing))

    return least_rows([("", (0, start))], ways, MOST_STANDINGS, "standing")


def least_to_rest(standings, rest):
    """The least answers that lead to a standing with this rest, None if there is none."""
    return least_row([standings[standing] for standing in standings if rest_of(standings.act, standing) == rest])
