"""Patter for eyes that the conjuror does not see."""

from shownempty.errors import BadEyes
from shownempty.forms import frozen
from shownempty.habits import are_eyes
from shownempty.tables import first_wrong
from shownempty.waiting import are_safe, judge_sleight_and_patter


class BlindWait:
    """Whether some row of patter brings eyes to safe places, wherever in a lot they are: it, or all lots that come."""

    def __init__(self, habits, gesture, manner, patter, eyes):
        judge_blind_arguments(habits, gesture, manner, patter, eyes)
        self.habits = habits
        self.gesture = gesture
        self.manner = manner
        self.patter = frozen(patter)
        self.eyes = frozen(eyes)
        rows = least_patter(habits, self.patter, self.eyes)
        # The rows are found in their order, so that the first one that is good is the least one.
        good = [row for lot, row in rows.items() if are_safe(habits, gesture, manner, lot)]
        self.row = good[0] if len(good) > 0 else None
        self.table = tuple(sorted(list(rows))) if self.row is None else None
        self._rows = () if self.table is None else self.table

    def __bool__(self):
        return self.row is not None

    def __len__(self):
        return len(self._rows)

    def __iter__(self):
        return iter(self._rows)


def judge_blind_arguments(habits, gesture, manner, patter, eyes):
    """Raises what is wrong with the arguments."""
    judge_sleight_and_patter(habits, gesture, manner, patter)
    if not are_eyes(eyes, habits.craft.size):
        raise BadEyes(eyes)


def least_patter(habits, patter, eyes):
    """The least row of patter behind which each lot comes, for all that come, in the order of these rows."""
    rows = {eyes: ()}
    lots = [eyes]
    k = 0
    while k < len(lots):
        for name in sorted(patter):
            lot = habits.spread(name, lots[k])
            if lot not in rows:
                rows[lot] = rows[lots[k]] + (name,)
                lots.append(lot)
        k += 1
    return rows


def judge_blind(habits, gesture, manner, patter, eyes, table):
    """None if the table is closed, -1 if the first lot is lacking, otherwise the number of the first bad row."""
    judge_blind_arguments(habits, gesture, manner, patter, eyes)
    there = {frozen(row): True for row in table if are_eyes(row, habits.craft.size)}
    if frozen(eyes) not in there:
        return -1
    return first_wrong([is_right(habits, gesture, manner, patter, row, there) for row in table])


def is_right(habits, gesture, manner, patter, row, there):
    """Whether the row is a lot whose places are not all safe, and the lots behind it are there."""
    if not are_eyes(row, habits.craft.size) or are_safe(habits, gesture, manner, row):
        return False
    return all([habits.spread(name, row) in there for name in patter])
