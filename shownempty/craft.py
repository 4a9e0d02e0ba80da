"""Crafts: the gestures that all guests see, and the sleights beneath them."""

from shownempty.deeds import is_deed, moved
from shownempty.errors import BadGesture, BadSize, BadSleight, BadWorld
from shownempty.errors import NoGesture, NoManner, NoSleight, TooMany, Twice
from shownempty.forms import frozen, is_lot, is_name, is_row, is_whole
from shownempty.worlds import is_size, is_world

MOST_GESTURES = 8
MOST_SLEIGHTS = 8
MOST_PRICE = 9


class Craft:
    """A size, and what can be done with the things in so many places."""

    HONEST = ""

    def __init__(self, size, gestures, sleights=()):
        if not is_size(size):
            raise BadSize(size)
        judge_gestures(size, gestures)
        judge_sleights(size, [gesture[0] for gesture in gestures], sleights)
        self.size = size
        self.gestures = frozen(gestures)
        self.sleights = frozen(sleights)
        self._known = {gesture[0]: gesture for gesture in self.gestures}
        self._ways = {gesture[0]: ways_of(gesture, self.sleights) for gesture in self.gestures}

    @property
    def face(self):
        """The eye place of the conjuror's face."""
        return self.size

    @property
    def arts(self):
        """The lot of the names of all sleights."""
        return tuple(sorted([sleight[0] for sleight in self.sleights]))

    def __contains__(self, x):
        return isinstance(x, str) and x in self._known

    def __len__(self):
        return len(self.gestures)

    def __iter__(self):
        return iter(self.gestures)

    def __eq__(self, other):
        return (isinstance(other, Craft) and self.size == other.size
                and self.gestures == other.gestures and self.sleights == other.sleights)

    def meaning_of(self, gesture):
        """The deed that the gesture looks like."""
        return self._gesture(gesture)[1]

    def places_of(self, gesture):
        """The shown places of the gesture."""
        return self._gesture(gesture)[2]

    def manners_of(self, gesture):
        """The ways in which the gesture can be done, the honest one first."""
        name = self._gesture(gesture)[0]
        return tuple(self._ways[name])

    def deed_of(self, gesture, manner):
        """The deed that is truly done in this manner."""
        return self._way(gesture, manner)[0]

    def price_of(self, gesture, manner):
        """The price of the manner."""
        return self._way(gesture, manner)[1]

    def spots_of(self, gesture, manner):
        """The eye places from which the manner is seen."""
        return self._way(gesture, manner)[2]

    def stroke(self, world, gesture, manner=""):
        """The pair of the world and the sight behind the stroke, None if it cannot be done."""
        if not is_world(world, self.size):
            raise BadWorld(world)
        behind = moved(world, self.deed_of(gesture, manner))
        if behind is None:
            return None
        return (behind, sight_of(self, gesture, behind))

    def without(self, *sleights):
        """The craft that has forgotten these sleights."""
        judge_arts(self, sleights)
        kept = [sleight for sleight in self.sleights if sleight[0] not in sleights]
        return Craft(self.size, self.gestures, kept)

    def _gesture(self, name):
        if name not in self:
            raise NoGesture(name)
        return self._known[name]

    def _way(self, gesture, manner):
        ways = self._ways[self._gesture(gesture)[0]]
        if not isinstance(manner, str) or manner not in ways:
            raise NoManner(manner)
        return ways[manner]


def judge_gestures(size, gestures):
    """Raises what is wrong with the gestures of a craft."""
    if not is_row(gestures) or len(gestures) == 0:
        raise BadGesture(-1)
    for k, gesture in enumerate(gestures):
        if not is_gesture(gesture, size):
            raise BadGesture(k)
    if len(gestures) > MOST_GESTURES:
        raise TooMany("gesture")
    judge_names([gesture[0] for gesture in gestures])


def judge_sleights(size, gestures, sleights):
    """Raises what is wrong with the sleights of a craft with gestures of these names."""
    if not is_row(sleights):
        raise BadSleight(-1)
    for k, sleight in enumerate(sleights):
        if not is_sleight(sleight, size, gestures):
            raise BadSleight(k)
    if len(sleights) > MOST_SLEIGHTS:
        raise TooMany("sleight")
    judge_names([sleight[0] for sleight in sleights])


def judge_names(names):
    """Raises the first name that an earlier one equals."""
    for k, name in enumerate(names):
        if name in names[:k]:
            raise Twice(name)


def judge_arts(craft, names):
    """Raises the first of the names that is none of a sleight of the craft."""
    arts = craft.arts
    for name in names:
        if not isinstance(name, str) or name not in arts:
            raise NoSleight(name)


def is_gesture(thing, size):
    """Whether it has the form of a gesture."""
    if not is_row(thing) or len(thing) != 3:
        return False
    name, meaning, shown = thing
    return is_name(name) and is_deed(meaning, size) and is_lot(shown, 0, size - 1)


def is_sleight(thing, size, gestures):
    """Whether it has the form of a sleight beneath one of the gestures."""
    if not is_row(thing) or len(thing) != 5:
        return False
    name, gesture, deed, price, spots = thing
    if not is_name(name) or not is_name(gesture) or gesture not in gestures:
        return False
    return is_deed(deed, size) and is_whole(price, 1, MOST_PRICE) and is_lot(spots, 0, size)


def ways_of(gesture, sleights):
    """For each manner of the gesture, in their order, the deed, the price and the spots."""
    name, meaning, _ = gesture
    ways = {Craft.HONEST: (meaning, 0, ())}
    for manner, beneath, deed, price, spots in sleights:
        if beneath == name:
            ways[manner] = (deed, price, spots)
    return ways


def sight_of(craft, gesture, world):
    """What the guests see behind the gesture if this world has come."""
    return tuple([world[place] for place in craft.places_of(gesture)])
