"""Plots played against slips of the hand: whether they can be done, at what price, and by which manners and outs."""

from shownempty.craft import sight_of
from shownempty.errors import BadAnswer, BadSlips, Lost, NoManner, NoPosition
from shownempty.forms import frozen, is_ascending, is_from, is_row
from shownempty.games import LOST, delays_of, is_reached, values_of
from shownempty.judging import is_enough
from shownempty.plays import is_answer, is_short_string
from shownempty.slips import is_position, is_show, judge_slip_arguments, outs_behind, slip_game
from shownempty.slips import strokes_at, strokes_of_all, turn_of
from shownempty.tables import first_numbers, first_wrong


class SlipGame:
    """The values of the positions of a plot against so many slips, and the picks by which they are reached."""

    def __init__(self, plot, risks, start, most):
        judge_slip_arguments(plot, risks, start, most)
        self.plot = plot
        self.risks = risks
        self.start = frozen(start)
        self.most = most
        self._strokes = strokes_of_all(plot, risks, self.start, most)
        game = slip_game(plot, self._strokes, ())
        self._values = values_of(game, delays_of(game))
        self.table = tuple(sorted([(position, self._values[position]) for position in self._strokes]))
        self.least = self._values[(0, self.start, 0)]

    def __bool__(self):
        return bool(self.least != LOST)

    def __len__(self):
        return len(self.table)

    def __iter__(self):
        return iter(self.table)

    def __getitem__(self, at):
        return self._values[self._position(at)]

    def pick(self, position):
        """The manner by which the value of the position is reached, None if it is lost or at no show."""
        stroke = self._picked(self._position(position))
        return None if stroke is None else stroke[0]

    def out(self, position, manner, slipped=False):
        """The number of the out that is picked behind the manner, None if none is fit."""
        for known, _, cases in self._strokes[self._position(position)]:
            if isinstance(manner, str) and known == manner and (len(cases) > 1 or not slipped):
                outs = outs_behind(self.plot, cases[1] if slipped else cases[0])
                return best_out(outs, self._values)[0] if len(outs) > 0 else None
        raise NoManner(manner)

    def performance(self, answers, *, slips=()):
        """The events, the rest and the price of the performance with these answers and slips."""
        if not is_short_string(answers):
            raise BadAnswer(-1)
        if not are_slips(slips):
            raise BadSlips(slips)
        if not self:
            raise Lost(self.start)
        position, events, price = self._performed((0, self.start, 0), 0, slips)
        for k, answer in enumerate(answers):
            if not is_answer(answer) or self.plot.cues[position[0]][0] != "ask":
                raise BadAnswer(k)
            done = len([event for event in events if not isinstance(event, str)])
            behind = turn_of(self.plot, position)[1][int(answer)][1]
            position, more, cost = self._performed(behind, done, slips)
            events = events + [answer] + more
            price = price + cost
        return (tuple(events), self.plot.cues[position[0]][0], price)

    def _performed(self, position, done, slips):
        """The position at which a performance rests next, if it goes on from here, with the strokes and their price."""
        events = []
        price = 0
        while is_show(self.plot, position):
            gesture = self.plot.cues[position[0]][1]
            _, cost, cases = self._picked(position)
            case = cases[1] if done + len(events) in slips and len(cases) > 1 else cases[0]
            events.append((gesture, sight_of(self.plot.craft, gesture, case[1])))
            price = price + cost
            position = best_out(outs_behind(self.plot, case), self._values)[1]
        return (position, events, price)

    def _picked(self, position):
        """The stroke of the manner that is picked at the position, None if there is none."""
        for stroke in self._strokes[position]:
            manner, price, _ = stroke
            if is_reached(self._values[position], price, self._values[("stroke", position, manner)]):
                return stroke
        return None

    def _position(self, thing):
        if not is_position(self.plot, self.most, thing) or frozen(thing) not in self._strokes:
            raise NoPosition(thing)
        return frozen(thing)


def are_slips(thing):
    """Whether it is a lot of integers from 0."""
    return is_row(thing) and all([is_from(part, 0) for part in thing]) and is_ascending(thing)


def best_out(outs, values):
    """The first of the outs that leads to the best position, and this position."""
    ranks = [rank_of(values[behind]) for _, behind in outs]
    return outs[ranks.index(min(ranks))]


def rank_of(value):
    """What is the less the better the position with this value is: prices first, then no bound, then the loss."""
    return (0, value) if value >= 0 else (-value, 0)


def judge_slips(plot, risks, start, most, table):
    """None if the table is right, -1 if the first position is lacking, otherwise the number of the first bad row."""
    judge_slip_arguments(plot, risks, start, most)
    prices = first_numbers([row for row in table if is_priced(plot, most, row)])
    if (0, frozen(start), 0) not in prices:
        return -1
    return first_wrong([is_priced(plot, most, row) and is_right(plot, risks, most, frozen(row[0]), row[1], prices)
                        for row in table])


def is_priced(plot, most, row):
    """Whether the row is a pair of a position and an integer from 0."""
    return is_row(row) and len(row) == 2 and is_position(plot, most, row[0]) and is_from(row[1], 0)


def is_right(plot, risks, most, position, price, prices):
    """Whether one can go on from the position for the price, if these prices are enough behind it."""
    if not is_show(plot, position):
        return is_enough(turn_of(plot, position), price, prices)
    return any([all([is_borne(plot, case, price - cost, prices) for case in cases])
                for _, cost, cases in strokes_at(plot, risks, most, position)])


def is_borne(plot, case, price, prices):
    """Whether some out can be picked in the case behind which the price is enough."""
    return any([behind in prices and prices[behind] <= price for _, behind in outs_behind(plot, case)])
