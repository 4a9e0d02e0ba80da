"""Wonders: acts that a guest cannot explain when they end."""

from shownempty.explained import first_explanation
from shownempty.forms import frozen
from shownempty.plays import events_of, gone_through
from shownempty.thoughts import judge_start_and_guest, judge_thoughts, least_thoughts, least_to_bad


class Wonder:
    """Whether an act is a wonder for a guest: its thoughts, or the least answers behind which he can explain it."""

    def __init__(self, act, start, guest):
        judge_start_and_guest(act, start, guest)
        self.act = act
        self.start = frozen(start)
        self.guest = guest
        thoughts = least_thoughts(act, self.start, guest)
        self.answers = least_to_bad(act, thoughts, "end", is_empty)
        self.explanation = None if self.answers is None else explained_by(act, self.start, guest, self.answers)
        self.table = tuple(sorted(list(thoughts))) if self.answers is None else None
        self._rows = () if self.table is None else self.table

    def __bool__(self):
        return self.answers is None

    def __len__(self):
        return len(self._rows)

    def __iter__(self):
        return iter(self._rows)


def is_empty(mind):
    """Whether nothing is held possible any more."""
    return len(mind) == 0


def explained_by(act, start, guest, answers):
    """The first explanation of the events behind the answers."""
    return first_explanation(guest, events_of(gone_through(act, start, answers)[0]))


def judge_wonder(act, start, guest, table):
    """None if the table is right, -1 if the first thought is lacking, otherwise the number of the first bad row."""
    return judge_thoughts(act, start, guest, table, "end", is_empty)
