"""Acts among guests who may name challenges: the situations that come of their moves.

A thought is a triple (cue, world, mind) of a standing at rest and what the guest holds possible there; a situation is
a thought with the number of challenges that have been named so far behind it.
"""

from shownempty.acts import followers_of, is_standing, rest_of, run_of
from shownempty.craft import sight_of
from shownempty.deeds import moved
from shownempty.errors import BadChallenge, BadWish
from shownempty.forms import frozen, is_row
from shownempty.games import MEETS, PICKS
from shownempty.guests import Guest, mind_behind
from shownempty.limits import counted, is_count, is_let
from shownempty.plays import events_of, strokes_of
from shownempty.search import reached_from
from shownempty.thoughts import is_mind, judge_start_and_guest
from shownempty.worlds import fits, is_wish

MOST_SITUATIONS = 1000


class Parlour:
    """What the moves of the guests lead to in an act, whatever number of challenges is let."""

    def __init__(self, act, guest, wish, challenges):
        self.act = act
        self.guest = guest
        self.wish = frozen(wish)
        self.challenges = frozen(challenges)
        # Many moves lead to the same minds and thoughts, which are not found out anew each time.
        self._minds = {}
        self._rests = {}
        self._met = {}

    def rested(self, standing, mind):
        """The thought at which the run from a standing rests."""
        if (standing, mind) not in self._rests:
            run = run_of(self.act, standing)
            behind = mind
            for event in events_of(strokes_of(self.act, run)):
                behind = self.mind_after(behind, event)
            self._rests[(standing, mind)] = run[-1] + (behind,)
        return self._rests[(standing, mind)]

    def met(self, thought, gesture):
        """The pairs (manner, thought) of the manners that meet this challenge, in their order."""
        if (thought, gesture) not in self._met:
            number, world, mind = thought
            craft = self.act.craft
            found = []
            for manner in craft.manners_of(gesture):
                behind = moved(world, craft.deed_of(gesture, manner))
                if behind is not None:
                    later = self.mind_after(mind, (gesture, sight_of(craft, gesture, behind)))
                    if Guest.cost(later) == Guest.cost(mind):
                        found.append((manner, (number, behind, later)))
            self._met[(thought, gesture)] = found
        return self._met[(thought, gesture)]

    def mind_after(self, mind, stroke):
        """The mind behind a stroke."""
        if (mind, stroke) not in self._minds:
            self._minds[(mind, stroke)] = mind_behind(self.guest, mind, stroke)
        return self._minds[(mind, stroke)]


def judge_parlour(act, start, guest, wish, challenges):
    """Raises what is wrong with the arguments."""
    judge_start_and_guest(act, start, guest)
    if not is_wish(wish, act.craft.size):
        raise BadWish(wish)
    if not is_row(challenges):
        raise BadChallenge(-1)
    for k, name in enumerate(challenges):
        if name not in act.craft or k > 0 and name <= challenges[k - 1]:
            raise BadChallenge(k)


def is_situation(act, guest, most, thing):
    """Whether it is a standing at rest, with a mind and a number of challenges that are let."""
    if not is_row(thing) or len(thing) != 4 or not is_standing(act, thing[:2]):
        return False
    return rest_of(act, frozen(thing[:2])) is not None and is_mind(guest, thing[2]) and is_count(thing[3], most)


def first_situation(parlour, start):
    """The situation of the first run."""
    return parlour.rested((0, start), parlour.guest.beginning) + (0,)


def is_broken(parlour, situation):
    """Whether the act is stuck there, or has ended with a world that does not fit the wish."""
    number, world = situation[:2]
    rest = rest_of(parlour.act, (number, world))
    return rest == "stuck" or rest == "end" and not fits(world, parlour.wish)


def answered_from(parlour, situation):
    """The situations behind the answers 0 and 1, none but at an ask."""
    number, world, mind, made = situation
    return [parlour.rested(follower, mind) + (made,) for follower in followers_of(parlour.act, (number, world))]


def named_at(parlour, most, situation):
    """The challenges that may be named in the situation, ascending."""
    number, world, _, made = situation
    if rest_of(parlour.act, (number, world)) == "stuck" or not is_let(made, most):
        return ()
    return parlour.challenges


def met_from(parlour, most, situation, gesture):
    """The pairs (manner, situation) of the manners that meet the challenge in the situation, in their order."""
    thought, made = situation[:3], situation[3]
    return [(manner, behind + (counted(made, most),)) for manner, behind in parlour.met(thought, gesture)]


def situations_of(parlour, start, most):
    """All situations, ascending; raises that they are too many."""
    def leads(situation):
        met = [behind for name in named_at(parlour, most, situation)
               for _, behind in met_from(parlour, most, situation, name)]
        return answered_from(parlour, situation) + met

    first = first_situation(parlour, start)
    return tuple(sorted(list(reached_from(first, leads, MOST_SITUATIONS, "situation"))))


def stand_game(parlour, situations, most):
    """The game among the situations, and behind them the challenges that may be named there."""
    game = {}
    for situation in situations:
        answers = [(0, behind) for behind in answered_from(parlour, situation)]
        named = named_at(parlour, most, situation)
        moves = answers + [(0, (situation, name)) for name in named]
        game[situation] = (PICKS, []) if is_broken(parlour, situation) else (MEETS, moves)
        for gesture in named:
            met = met_from(parlour, most, situation, gesture)
            game[(situation, gesture)] = (PICKS, [(0, behind) for _, behind in met])
    return game
