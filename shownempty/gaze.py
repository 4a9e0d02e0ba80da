"""Gazes: where eyes can be, how that goes on, and how it is tried without being kept."""

from shownempty.errors import BadEyes
from shownempty.forms import frozen
from shownempty.habits import are_eyes
from shownempty.waiting import are_safe


class Gaze:
    """Habits, and the lot of the eye places where eyes can be now."""

    def __init__(self, habits, lot):
        self.habits = habits
        self.lot = lot

    @property
    def lot(self):
        """The lot of the eye places where eyes can be."""
        return self._lot

    @lot.setter
    def lot(self, value):
        if not are_eyes(value, self.habits.craft.size):
            raise BadEyes(value)
        self._lot = frozen(value)

    def __eq__(self, other):
        return isinstance(other, Gaze) and self.habits == other.habits and self.lot == other.lot

    def see(self, *gestures):
        """Goes on under these gestures, and tells the lot behind them."""
        lot = self._lot
        for gesture in gestures:
            lot = self.habits.spread(gesture, lot)
        self._lot = lot
        return lot

    def safe_for(self, gesture, manner):
        """Whether all places of the lot are safe for the manner of the gesture."""
        return are_safe(self.habits, gesture, manner, self._lot)

    def copy(self):
        """Another gaze with the same habits and the same lot."""
        return Gaze(self.habits, self._lot)


class Held:
    """What an aside keeps for each block that has been entered: what the gaze was, and what was kept before."""

    def __init__(self, habits, kept, before):
        self.habits = habits
        self.kept = kept
        self.before = before


class Aside:
    """A context behind whose block a gaze is what it was; it can be used again, also within its own block."""

    def __init__(self, gaze):
        self.gaze = gaze
        self._held = Held(None, None, None)

    def __enter__(self):
        self._held = Held(self.gaze.habits, self.gaze.lot, self._held)
        return self.gaze

    def __exit__(self, kind, value, trace):
        gaze = self.gaze
        gaze.habits = self._held.habits
        gaze._lot = self._held.kept
        self._held = self._held.before


def rehearsed(gaze, deeds):
    """What is told for the deeds, which are done one after the other in an aside of the gaze."""
    told = []
    with Aside(gaze):
        for deed in deeds:
            told.append(told_of(gaze, deed))
    return tuple(told)


def told_of(gaze, deed):
    """Does the deed, and tells the lot behind it, or what is told for the deeds of an aside."""
    what, worth = deed
    if what == "see":
        return gaze.see(worth)
    if what == "set":
        gaze.lot = worth
        return gaze.lot
    return rehearsed(gaze, worth)
