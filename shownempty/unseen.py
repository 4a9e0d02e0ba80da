"""Unseen acts: those of which no eye that is led by habits can see a sleight."""

from shownempty.acts import followers_of, is_standing, judge_start
from shownempty.errors import BadEyes, Unlike
from shownempty.forms import frozen, is_row, is_whole
from shownempty.habits import are_eyes
from shownempty.search import answered, least_row, least_rows
from shownempty.tables import first_wrong

MOST_LOOKS = 1500


class Unseen:
    """Whether an act is unseen by eyes that begin in a lot: its looks, or the least story that sees a stroke."""

    def __init__(self, act, start, habits, eyes):
        judge_what_is_looked_at(act, start, habits, eyes)
        self.act = act
        self.start = frozen(start)
        self.habits = habits
        self.eyes = frozen(eyes)
        stories = stories_of(act, self.start, habits, self.eyes)
        self.story = least_that_sees(act, habits, stories)
        self.table = tuple(sorted(list(stories))) if self.story is None else None
        self._rows = () if self.table is None else self.table

    def __bool__(self):
        return self.story is None

    def __len__(self):
        return len(self._rows)

    def __iter__(self):
        return iter(self._rows)


def judge_what_is_looked_at(act, start, habits, eyes):
    """Raises what is wrong with the arguments."""
    judge_start(act, start)
    if not habits.craft == act.craft:
        raise Unlike("craft")
    if not are_eyes(eyes, act.craft.size):
        raise BadEyes(eyes)


def stories_of(act, start, habits, eyes):
    """The least story that leads to each look, for all to which stories lead that begin in the lot."""
    def ways(look):
        return [(more, behind) for more, behind, _ in ways_from(act, habits, look)]

    return least_rows([((eye,), (0, start, eye)) for eye in eyes], ways, MOST_LOOKS, "look")


def least_that_sees(act, habits, stories):
    """The least story whose last entry is an eye that sees its stroke, None if there is none."""
    return least_row([story + more for look, story in stories.items()
                      for more, _, is_seen in ways_from(act, habits, look) if is_seen])


def ways_from(act, habits, look):
    """The triples (more, look, seen): by what the story grows and where this leads, and whether a stroke is seen."""
    number, world, eye = look
    followers = followers_of(act, (number, world))
    cue = act.cues[number]
    if cue[0] == "ask":
        return [((answer,), follower + (eye,), False) for answer, follower in answered(followers)]
    if cue[0] != "do" or len(followers) == 0:
        return [((), follower + (eye,), False) for follower in followers]
    spots = act.craft.spots_of(cue[1], cue[2])
    return [((goal,), followers[0] + (goal,), goal in spots) for goal in habits.behind(cue[1], eye)]


def judge_unseen(act, start, habits, eyes, table):
    """None if the table is right, -1 if a first look is lacking, otherwise the number of the first bad row."""
    judge_what_is_looked_at(act, start, habits, eyes)
    there = {frozen(row): True for row in table if is_look(act, row)}
    if not all([(0, frozen(start), eye) in there for eye in eyes]):
        return -1
    return first_wrong([is_right(act, habits, row, there) for row in table])


def is_look(act, thing):
    """Whether it is a triple of a standing and an eye place."""
    if not is_row(thing) or len(thing) != 3:
        return False
    return is_standing(act, thing[:2]) and is_whole(thing[2], 0, act.craft.face)


def is_right(act, habits, row, there):
    """Whether the row is a look at which no stroke is seen, and all looks behind it are there."""
    if not is_look(act, row):
        return False
    return all([not is_seen and look in there for _, look, is_seen in ways_from(act, habits, frozen(row))])
