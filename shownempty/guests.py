"""Guests: what those who know some sleights hold possible when they see strokes."""

from shownempty.craft import Craft, sight_of
from shownempty.deeds import moved
from shownempty.errors import BadHeld, BadKnown, BadMost, BadSeen
from shownempty.forms import frozen, is_row, is_whole
from shownempty.plays import is_answer
from shownempty.worlds import is_word, is_world

MOST_HELD = 60
MOST_IN_ALL = 4
MOST_SEEN = 24


class Guest:
    """The worlds that a guest holds possible at first, the sleights he knows, and how many he thinks of."""

    def __init__(self, craft, held, known=(), most=0):
        judge_held(craft, held)
        judge_known(craft, known)
        judge_most(most)
        self.craft = craft
        self.held = frozen(held)
        self.known = frozen(known)
        self.most = most
        self._ways = {gesture[0]: known_ways(craft, gesture[0], self.known) for gesture in craft}

    @property
    def beginning(self):
        """The mind behind nothing."""
        return tuple([(world, 0) for world in self.held])

    def __eq__(self, other):
        return (isinstance(other, Guest) and self.craft == other.craft and self.held == other.held
                and self.known == other.known and self.most == other.most)

    def mind(self, seen):
        """The worlds to which explanations of the seen things lead, each with the fewest sleights."""
        judge_seen(self.craft, seen)
        mind = self.beginning
        for event in frozen(seen):
            mind = mind_behind(self, mind, event)
        return mind

    def behind(self, mind, event):
        """The mind behind one more event."""
        if not is_event(self.craft, event):
            raise BadSeen(0)
        return mind_behind(self, frozen(mind), frozen(event))

    def is_within(self, other):
        """Whether the other guest of this craft holds and knows as much, and thinks of as many."""
        if not self.craft == other.craft or self.most > other.most:
            return False
        return (all([world in other.held for world in self.held])
                and all([name in other.known for name in self.known]))

    def steps(self, world, stroke):
        """How a seen stroke can be done in the world: triples (manner, sleights, world behind), rising."""
        gesture, sight = stroke
        steps = [(manner, sleights, moved(world, deed)) for manner, sleights, deed in self._ways[gesture]]
        return [step for step in steps if step[2] is not None and sight_of(self.craft, gesture, step[2]) == sight]

    @staticmethod
    def cost(mind):
        """The least number of sleights in a mind, None if it is empty."""
        if len(mind) == 0:
            return None
        return min([fewest for _, fewest in mind])

    @classmethod
    def layman(cls, craft, *worlds):
        """The guest who holds these worlds and knows no sleight."""
        if not 1 <= len(worlds) <= MOST_HELD:
            raise BadHeld(-1)
        for k, world in enumerate(worlds):
            if not is_world(world, craft.size):
                raise BadHeld(k)
        return cls(craft, sorted(set([frozen(world) for world in worlds])))


def judge_held(craft, held):
    """Raises what is wrong with held worlds."""
    if not is_row(held) or not 1 <= len(held) <= MOST_HELD:
        raise BadHeld(-1)
    for k, world in enumerate(held):
        if not is_world(world, craft.size) or k > 0 and frozen(world) <= frozen(held[k - 1]):
            raise BadHeld(k)


def judge_known(craft, known):
    """Raises what is wrong with known sleights."""
    if not is_row(known):
        raise BadKnown(-1)
    arts = craft.arts
    for k, name in enumerate(known):
        if not isinstance(name, str) or name not in arts or k > 0 and name <= known[k - 1]:
            raise BadKnown(k)


def judge_most(most):
    """Raises that this is no greatest number of sleights of a guest."""
    if not is_whole(most, 0, MOST_IN_ALL):
        raise BadMost(most)


def judge_seen(craft, seen):
    """Raises what is wrong with seen things."""
    if not is_row(seen) or len(seen) > MOST_SEEN:
        raise BadSeen(-1)
    for k, event in enumerate(seen):
        if not is_event(craft, event):
            raise BadSeen(k)


def is_event(craft, thing):
    """Whether it is an answer, or a pair of a gesture and a word for each of its shown places."""
    if isinstance(thing, str):
        return is_answer(thing)
    if not is_row(thing) or len(thing) != 2 or thing[0] not in craft:
        return False
    gesture, sight = thing
    if not is_row(sight) or len(sight) != len(craft.places_of(gesture)):
        return False
    return all([is_word(word) for word in sight])


def known_ways(craft, gesture, known):
    """For the manners that the guest thinks of, ascending, how many sleights they are, and their deeds."""
    manners = [manner for manner in craft.manners_of(gesture) if manner == Craft.HONEST or manner in known]
    return [(manner, 0 if manner == Craft.HONEST else 1, craft.deed_of(gesture, manner)) for manner in sorted(manners)]


def mind_behind(guest, mind, event):
    """As the method, for what is known to be right, with tuples alone."""
    if isinstance(event, str):
        return mind
    return least_mind([(behind, fewest + sleights) for world, fewest in mind
                       for _, sleights, behind in guest.steps(world, event) if fewest + sleights <= guest.most])


def honest_behind(guest, mind, stroke):
    """What the honest manner alone leaves of the mind behind a stroke."""
    return least_mind([(behind, fewest) for world, fewest in mind
                       for manner, _, behind in guest.steps(world, stroke) if manner == Craft.HONEST])


def least_mind(pairs):
    """The mind with all these worlds, each with the least of its numbers of sleights."""
    least = {}
    for world, sleights in pairs:
        least[world] = min(sleights, least.get(world, sleights))
    return tuple(sorted(least.items()))
