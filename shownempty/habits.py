"""Habits: where the eyes of guests are led by gestures."""

from shownempty.craft import judge_names
from shownempty.errors import BadEye, BadEyes, BadHabit, NoGesture
from shownempty.forms import frozen, is_lot, is_row, is_whole


class Habits:
    """For gestures of a craft, to which eye places an eye can go from each eye place."""

    def __init__(self, craft, rules):
        judge_rules(craft, rules)
        self.craft = craft
        self.rules = frozen(rules)
        self._led = {rule[0]: rule[1] for rule in self.rules}

    def __eq__(self, other):
        return isinstance(other, Habits) and self.craft == other.craft and self.rules == other.rules

    def behind(self, gesture, eye):
        """The lot of the eye places to which an eye can go under the gesture."""
        if gesture not in self.craft:
            raise NoGesture(gesture)
        if not is_whole(eye, 0, self.craft.face):
            raise BadEye(eye)
        return self._led[gesture][eye] if gesture in self._led else (eye,)

    def spread(self, gesture, eyes):
        """The lot of the eye places to which eyes can go that are somewhere in a lot."""
        if gesture not in self.craft:
            raise NoGesture(gesture)
        if not are_eyes(eyes, self.craft.size):
            raise BadEyes(eyes)
        return tuple(sorted(set([goal for eye in eyes for goal in self.behind(gesture, eye)])))

    def is_safe(self, gesture, manner, eye):
        """Whether an eye that is there cannot see the gesture done in this manner."""
        spots = self.craft.spots_of(gesture, manner)
        return not any([goal in spots for goal in self.behind(gesture, eye)])


def are_eyes(thing, size):
    """Whether it is a lot of at least one eye place of this size."""
    return is_lot(thing, 0, size) and len(thing) > 0


def judge_rules(craft, rules):
    """Raises what is wrong with the rules of habits."""
    if not is_row(rules):
        raise BadHabit(-1)
    for k, rule in enumerate(rules):
        if not is_rule(craft, rule):
            raise BadHabit(k)
    judge_names([rule[0] for rule in rules])


def is_rule(craft, thing):
    """Whether it is a pair of a gesture and, for each eye place, a lot of at least one eye place."""
    if not is_row(thing) or len(thing) != 2:
        return False
    gesture, rows = thing
    if gesture not in craft or not is_row(rows) or len(rows) != craft.size + 1:
        return False
    return all([are_eyes(row, craft.size) for row in rows])
