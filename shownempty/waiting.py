"""Waiting: patter by which the eyes of watchers are led away before a sleight is done."""

from shownempty.errors import BadEyes, BadMany, BadPatter, NoGesture
from shownempty.forms import frozen, is_from, is_row, is_whole
from shownempty.tables import first_numbers, first_wrong

MOST_PATTER = 8
MOST_WATCHERS = 3


class Waiting:
    """For all eyes of the watchers, within how many gestures of patter they can surely be brought to safe places."""

    def __init__(self, habits, gesture, manner, patter, watchers=1):
        judge_sleight_and_patter(habits, gesture, manner, patter)
        judge_watchers(watchers)
        self.habits = habits
        self.gesture = gesture
        self.manner = manner
        self.patter = frozen(patter)
        self.watchers = watchers
        self._values = values_of(habits, gesture, manner, self.patter, watchers)
        self.table = tuple(sorted(self._values.items()))

    @property
    def trap(self):
        """The eyes without a value, ascending."""
        return tuple([eyes for eyes, value in self.table if value == -1])

    def __len__(self):
        return len(self.table)

    def __iter__(self):
        return iter(self.table)

    def value(self, eyes):
        """The least number of gestures within which the eyes can be brought to safe places, -1 if none is."""
        return self._values[self._eyes(eyes)]

    def plan(self, eyes):
        """The first gesture of the patter by which the value is reached, None unless it is above 0."""
        known = self._eyes(eyes)
        if self._values[known] < 1:
            return None
        for name in self.patter:
            if greatest_behind(self.habits, name, known, self._values) == self._values[known] - 1:
                return name
        return None

    def worst(self, eyes, gesture):
        """The first of the eyes with the greatest value that can come behind a gesture of the patter."""
        known = self._eyes(eyes)
        if not isinstance(gesture, str) or gesture not in self.patter:
            raise NoGesture(gesture)
        greatest = greatest_behind(self.habits, gesture, known, self._values)
        return [come for come in coming(self.habits, gesture, known) if self._values[come] == greatest][0]

    def _eyes(self, thing):
        if not are_watching(thing, self.habits.craft.size, self.watchers):
            raise BadEyes(thing)
        return frozen(thing)


def judge_sleight_and_patter(habits, gesture, manner, patter):
    """Raises what is wrong with the gesture, its manner or the patter."""
    craft = habits.craft
    craft.spots_of(gesture, manner)
    if not is_row(patter) or not 1 <= len(patter) <= MOST_PATTER:
        raise BadPatter(-1)
    for k, name in enumerate(patter):
        if name not in craft or name in patter[:k]:
            raise BadPatter(k)


def judge_watchers(watchers):
    """Raises that this is no number of watchers."""
    if not is_whole(watchers, 1, MOST_WATCHERS):
        raise BadMany(watchers)


def are_watching(thing, size, watchers):
    """Whether it is a rising tuple of so many eye places."""
    if not is_row(thing) or len(thing) != watchers or not all([is_whole(eye, 0, size) for eye in thing]):
        return False
    return list(thing) == sorted(thing)


def all_eyes(size, watchers):
    """All rising tuples of so many eye places, ascending."""
    rows = [()]
    for _ in range(watchers):
        rows = [row + (eye,) for row in rows for eye in range(size + 1) if row == () or row[-1] <= eye]
    return rows


def coming(habits, gesture, eyes):
    """All eyes that can come behind the gesture, ascending."""
    rows = [()]
    for eye in eyes:
        rows = [row + (goal,) for row in rows for goal in habits.behind(gesture, eye)]
    return sorted(set([tuple(sorted(row)) for row in rows]))


def are_safe(habits, gesture, manner, eyes):
    """Whether all these eye places are safe for the manner of the gesture."""
    return all([habits.is_safe(gesture, manner, eye) for eye in eyes])


def values_of(habits, gesture, manner, patter, watchers):
    """The value of all eyes."""
    every = all_eyes(habits.craft.size, watchers)
    values = {eyes: 0 for eyes in every if are_safe(habits, gesture, manner, eyes)}
    ways = {eyes: [coming(habits, name, eyes) for name in patter] for eyes in every}
    value = 0
    # Eyes that have all of some gesture's eyes valued by now, and not earlier, have a value greater by 1.
    fresh = list(values)
    while len(fresh) > 0:
        value += 1
        fresh = [eyes for eyes in every if eyes not in values
                 and any([all([come in values for come in way]) for way in ways[eyes]])]
        for eyes in fresh:
            values[eyes] = value
    return {eyes: values.get(eyes, -1) for eyes in every}


def greatest_behind(habits, gesture, eyes, values):
    """The greatest value of the eyes that can come behind the gesture, -1 counting as the greatest."""
    found = [values[come] for come in coming(habits, gesture, eyes)]
    return -1 if -1 in found else max(found)


def judge_waiting(habits, gesture, manner, patter, watchers, table):
    """None if the table is right, -1 if some eyes are lacking, otherwise the number of the first bad row."""
    judge_sleight_and_patter(habits, gesture, manner, patter)
    judge_watchers(watchers)
    values = first_numbers([row for row in table if is_valued(habits, watchers, row)])
    if not all([eyes in values for eyes in all_eyes(habits.craft.size, watchers)]):
        return -1
    return first_wrong([is_valued(habits, watchers, row)
                        and row[1] == value_behind(habits, gesture, manner, patter, frozen(row[0]), values)
                        for row in table])


def is_valued(habits, watchers, row):
    """Whether the row is a pair of eyes and an integer from -1."""
    if not is_row(row) or len(row) != 2:
        return False
    return are_watching(row[0], habits.craft.size, watchers) and is_from(row[1], -1)


def value_behind(habits, gesture, manner, patter, eyes, values):
    """The value that the eyes have if those that can come have these values."""
    if are_safe(habits, gesture, manner, eyes):
        return 0
    found = [greatest_behind(habits, name, eyes, values) for name in patter]
    good = [value for value in found if value != -1]
    return -1 if len(good) == 0 else 1 + min(good)
