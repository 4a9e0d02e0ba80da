"""Making a plot: whether it can be done whatever the guests answer, at what price, and by which options."""

from shownempty.acts import is_standing, judge_start
from shownempty.errors import BadTimes, NoStanding
from shownempty.forms import frozen, is_whole
from shownempty.games import LOST, MEETS, PICKS, delays_of, forced_further, is_reached, values_of
from shownempty.plots import ways_on
from shownempty.search import reached_from
from shownempty.worlds import fits

MOST_STANDINGS = 600
MOST_TIMES = 1000


class Making:
    """The values of the standings of a plot from a start, and the method by which they are reached."""

    def __init__(self, plot, start):
        judge_start(plot, start)
        self.plot = plot
        self.start = frozen(start)
        self._game = game_of(plot, self.start)
        self._delays = delays_of(self._game)
        self._values = values_of(self._game, self._delays)
        self._forced = [forced_further(self._game, None)]
        self.table = tuple(sorted(self._values.items()))
        self.least = self._values[(0, self.start)]

    def __bool__(self):
        return bool(self.least != LOST)

    def __len__(self):
        return len(self.table)

    def __iter__(self):
        return iter(self.table)

    def __getitem__(self, at):
        return self._values[self._standing(at)]

    def delay(self, standing):
        """Within how many answers the guests can bring about a broken standing, None if it is sound."""
        return self._delays.get(self._standing(standing))

    def forced(self, standing, times):
        """What the guests can force from the standing within so many answers, None if the conjuror is lost."""
        known = self._standing(standing)
        if not is_whole(times, 0, MOST_TIMES):
            raise BadTimes(times)
        rounds = self._forced
        # What is forced by no answer more is never more.
        while len(rounds) <= times and (len(rounds) < 2 or rounds[-1] != rounds[-2]):
            rounds.append(forced_further(self._game, rounds[-1]))
        return rounds[min(times, len(rounds) - 1)][known]

    def method(self, standing):
        """The option by which the value of the standing is reached, None if it is lost or at no show."""
        known = self._standing(standing)
        for option, price, behind in choices_at(self.plot, known):
            if is_reached(self._values[known], price, self._values[behind]):
                return option
        return None

    def _standing(self, thing):
        if not is_standing(self.plot, thing) or frozen(thing) not in self._values:
            raise NoStanding(thing)
        return frozen(thing)


def choices_at(plot, standing):
    """The options of a standing, each with its price and the standing behind it."""
    cue = plot.cues[standing[0]]
    return [((manner, out), plot.craft.price_of(cue[1], manner), behind)
            for (manner, out), behind in ways_on(plot, standing)]


def turn_at(plot, standing):
    """Who goes on at the standing, and the pairs (price, standing) among which he chooses."""
    number, world = standing
    cue = plot.cues[number]
    if cue[0] == "ask":
        return (MEETS, [(0, (cue[1], world)), (0, (cue[2], world))])
    if cue[0] == "show":
        return (PICKS, [(price, behind) for _, price, behind in choices_at(plot, standing)])
    return (MEETS if fits(world, cue[1]) else PICKS, [])


def game_of(plot, start):
    """The turns at the standings of the plot, the last cues first; raises that these are too many."""
    def leads(standing):
        return [behind for _, behind in turn_at(plot, standing)[1]]

    standings = reached_from((0, start), leads, MOST_STANDINGS, "standing")
    # At a show the target is a later cue.
    return {standing: turn_at(plot, standing) for standing in sorted(list(standings), reverse=True)}


def can_be_done(plot, start):
    """Whether the plot can be done from the start; raises that its standings are too many."""
    return (0, start) not in delays_of(game_of(plot, start))
