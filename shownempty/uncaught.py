"""Acts that are never caught: a guest is never sure that some stroke was a sleight."""

from shownempty.acts import followers_of, is_standing, rest_of
from shownempty.forms import frozen, is_row
from shownempty.guests import honest_behind, mind_behind
from shownempty.plays import events_of, gone_through
from shownempty.search import answered, least_row, least_rows
from shownempty.tables import first_wrong
from shownempty.thoughts import event_at, is_mind, judge_start_and_guest

MOST_MARKS = 1500


class Uncaught:
    """Whether an act is never caught by a guest: its marks, or the least answers behind which he is sure."""

    def __init__(self, act, start, guest):
        judge_start_and_guest(act, start, guest)
        self.act = act
        self.start = frozen(start)
        self.guest = guest
        marks = least_marks(act, self.start, guest)
        answers = least_row([row for mark, row in marks.items() if is_caught(act, mark)])
        self.breach = None if answers is None else (answers, first_sure(act, self.start, guest, answers))
        self.table = in_order(list(marks)) if self.breach is None else None
        self._rows = () if self.table is None else self.table

    def __bool__(self):
        return self.breach is None

    def __len__(self):
        return len(self._rows)

    def __iter__(self):
        return iter(self._rows)


def least_marks(act, start, guest):
    """The least answers that lead to each mark, for all to which answers lead."""
    def ways(mark):
        return ways_from(act, guest, mark)

    return least_rows([("", (0, start, guest.beginning, None))], ways, MOST_MARKS, "mark")


def ways_from(act, guest, mark):
    """The ways from a mark: the answers, if any are due, and the marks to which they lead."""
    number, world, mind, share = mark
    followers = followers_of(act, (number, world))
    event = event_at(act, number, followers)
    if event is None:
        return answered([follower + (mind, share) for follower in followers])
    behind = followers[0] + (mind_behind(guest, mind, event),)
    if share is not None:
        return [("", behind + (mind_behind(guest, share, event),))]
    return [("", behind + (None,)), ("", behind + (honest_behind(guest, mind, event),))]


def is_caught(act, mark):
    """Whether the guest is asked, or left, while the mark shows that he is sure of its stroke."""
    number, world, mind, share = mark
    return is_sure(mind, share) and rest_of(act, (number, world)) in ("ask", "end")


def is_sure(mind, share):
    """Whether who has this share of his mind for a stroke is sure of it."""
    return share == () and len(mind) > 0


def first_sure(act, start, guest, answers):
    """The least index of a stroke of which the guest is sure behind the answers."""
    mind = guest.beginning
    # Strokes whose shares have become the same have the same ones ever after: the first of them is enough.
    firsts = {}
    strokes = 0
    for event in events_of(gone_through(act, start, answers)[0]):
        if not isinstance(event, str):
            shares = [(mind_behind(guest, share, event), index) for share, index in firsts.items()]
            shares.append((honest_behind(guest, mind, event), strokes))
            firsts = {}
            for share, index in shares:
                firsts[share] = min(index, firsts.get(share, index))
            mind = mind_behind(guest, mind, event)
            strokes += 1
    return firsts[()]


def in_order(marks):
    """The marks with None ascending, then the others ascending."""
    bare = sorted([mark[:3] for mark in marks if mark[3] is None])
    return tuple([mark + (None,) for mark in bare] + sorted([mark for mark in marks if mark[3] is not None]))


def judge_uncaught(act, start, guest, table):
    """None if the table is right, -1 if the first mark is lacking, otherwise the number of the first bad row."""
    judge_start_and_guest(act, start, guest)
    there = {frozen(row): True for row in table if is_mark(act, guest, row)}
    if (0, frozen(start), guest.beginning, None) not in there:
        return -1
    return first_wrong([is_mark(act, guest, row) and is_right(act, guest, frozen(row), there) for row in table])


def is_mark(act, guest, thing):
    """Whether it is a tuple of a standing, a mind, and a share or None."""
    if not is_row(thing) or len(thing) != 4 or not is_standing(act, thing[:2]) or not is_mind(guest, thing[2]):
        return False
    return thing[3] is None or is_mind(guest, thing[3])


def is_right(act, guest, mark, there):
    """Whether the guest is not caught at the mark, and the marks behind it are there."""
    return not is_caught(act, mark) and all([behind in there for _, behind in ways_from(act, guest, mark)])
