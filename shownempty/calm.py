"""Calm acts: whenever a guest is asked, all that he has seen can still have been honest."""

from shownempty.forms import frozen
from shownempty.guests import Guest
from shownempty.thoughts import judge_start_and_guest, judge_thoughts, least_thoughts, least_to_bad


class Calm:
    """Whether an act is calm for a guest: its thoughts, or the least answers behind which it no longer is."""

    def __init__(self, act, start, guest):
        judge_start_and_guest(act, start, guest)
        self.act = act
        self.start = frozen(start)
        self.guest = guest
        thoughts = least_thoughts(act, self.start, guest)
        self.answers = least_to_bad(act, thoughts, "ask", is_honest)
        self.table = tuple(sorted(list(thoughts))) if self.answers is None else None
        self._rows = () if self.table is None else self.table

    def __bool__(self):
        return self.answers is None

    def __len__(self):
        return len(self._rows)

    def __iter__(self):
        return iter(self._rows)


def is_honest(mind):
    """Whether something is held possible without any sleight."""
    return Guest.cost(mind) == 0


def judge_calm(act, start, guest, table):
    """None if the table is right, -1 if the first thought is lacking, otherwise the number of the first bad row."""
    return judge_thoughts(act, start, guest, table, "ask", is_honest)
