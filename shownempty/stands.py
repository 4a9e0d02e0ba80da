"""Stands: whether the conjuror meets whatever challenges the guests name, and how."""

from shownempty.errors import BadAnswer, NoGesture, NoSituation
from shownempty.forms import frozen
from shownempty.games import delays_of
from shownempty.limits import judge_limit
from shownempty.parlour import Parlour, answered_from, first_situation, is_broken, is_situation, judge_parlour
from shownempty.parlour import met_from, named_at, situations_of, stand_game
from shownempty.plays import is_answer


class Stand:
    """The sound situations of an act with challenges, or, if the conjuror does not stand, the lost ones."""

    def __init__(self, act, start, guest, wish, challenges, *, most=None):
        judge_parlour(act, start, guest, wish, challenges)
        judge_limit(most)
        self._parlour = Parlour(act, guest, wish, challenges)
        self.act = act
        self.start = frozen(start)
        self.guest = guest
        self.wish = self._parlour.wish
        self.challenges = self._parlour.challenges
        self.most = most
        situations = situations_of(self._parlour, self.start, most)
        self._first = first_situation(self._parlour, self.start)
        self._there = {situation: True for situation in situations}
        self._delays = delays_of(stand_game(self._parlour, situations, most))
        sound = tuple([situation for situation in situations if situation not in self._delays])
        lost = tuple([(situation, self._delays[situation]) for situation in situations if situation in self._delays])
        self.table = lost if self._first in self._delays else sound

    @property
    def beginning(self):
        """The first situation."""
        return self._first

    def __bool__(self):
        return bool(self._first not in self._delays)

    def __len__(self):
        return len(self.table)

    def __iter__(self):
        return iter(self.table)

    def delay(self, situation):
        """The delay of the situation, None if it is sound."""
        return self._delays.get(self._situation(situation))

    def answered(self, situation, answer):
        """The situation behind an answer."""
        behind = answered_from(self._parlour, self._situation(situation))
        if not isinstance(answer, str) or not is_answer(answer) or len(behind) == 0:
            raise BadAnswer(0)
        return behind[int(answer)]

    def meetings(self, situation, gesture):
        """The pairs (manner, situation) of the manners that meet the challenge, in their order."""
        known = self._situation(situation)
        if not isinstance(gesture, str) or gesture not in named_at(self._parlour, self.most, known):
            raise NoGesture(gesture)
        return tuple(met_from(self._parlour, self.most, known, gesture))

    def reply(self, situation, gesture):
        """The manner by which the challenge is best met, None if none meets it."""
        met = self.meetings(situation, gesture)
        delays = [self._delays.get(behind) for _, behind in met]
        if len(met) == 0:
            return None
        best = None if None in delays else max(delays)
        return met[delays.index(best)][0]

    def catch(self, situation):
        """The first move that leaves the least delay, None if the situation is sound or broken."""
        known = self._situation(situation)
        if known not in self._delays or is_broken(self._parlour, known):
            return None
        moves = list(zip("01", answered_from(self._parlour, known)))
        moves.extend([(gesture, (known, gesture)) for gesture in named_at(self._parlour, self.most, known)])
        left = [(self._delays[behind], move) for move, behind in moves if behind in self._delays]
        least = min([delay for delay, _ in left])
        return [move for delay, move in left if delay == least][0]

    def _situation(self, thing):
        if not is_situation(self.act, self.guest, self.most, thing) or frozen(thing) not in self._there:
            raise NoSituation(thing)
        return frozen(thing)
