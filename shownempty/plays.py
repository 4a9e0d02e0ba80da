"""Plays: what the guests see of an act when they answer."""

from shownempty.acts import followers_of, judge_start, rest_of, run_of
from shownempty.craft import sight_of
from shownempty.errors import BadAnswer, NoEvent
from shownempty.forms import frozen, is_whole

MOST_ANSWERS = 200


class Play:
    """An act played from a start with answers that it asks for."""

    def __init__(self, act, start, answers=""):
        judge_start(act, start)
        if not is_short_string(answers):
            raise BadAnswer(-1)
        entries, last, asked = gone_through(act, frozen(start), answers)
        if asked < len(answers):
            raise BadAnswer(asked)
        self.act = act
        self.start = frozen(start)
        self.answers = answers
        self._entries = entries
        self._events = events_of(entries)
        self._last = last

    @property
    def events(self):
        """What the guests see and say, in order."""
        return self._events

    @property
    def rest(self):
        """The rest of the last standing."""
        return rest_of(self.act, self._last)

    @property
    def shown(self):
        """The pair of the events and the rest."""
        return (self._events, self.rest)

    @property
    def last(self):
        """The standing at which the play rests."""
        return self._last

    @property
    def manners(self):
        """The manners of the strokes, in order."""
        return tuple([entry[1] for entry in self._entries if not isinstance(entry, str)])

    @property
    def price(self):
        """The sum of the prices of the manners."""
        strokes = [entry for entry in self._entries if not isinstance(entry, str)]
        return sum([self.act.craft.price_of(gesture, manner) for gesture, manner, _ in strokes])

    def __len__(self):
        return len(self._events)

    def __getitem__(self, at):
        if not is_whole(at, 0, len(self._events) - 1):
            raise NoEvent(at)
        return self._events[at]

    def __iter__(self):
        return iter(self._events)

    def __eq__(self, other):
        return (isinstance(other, Play) and self.act == other.act
                and self.start == other.start and self.answers == other.answers)

    def __add__(self, other):
        if not isinstance(other, str) or not is_short_string(self.answers + other):
            raise BadAnswer(-1)
        answers = self.answers + other
        asked = gone_through(self.act, self.start, answers)[2]
        if asked < len(answers):
            raise BadAnswer(asked - len(self.answers))
        return Play(self.act, self.start, answers)


def show_of(act, start, answers):
    """What the act shows from the start for these answers, as far as it asks for them."""
    judge_start(act, start)
    judge_answers(answers)
    return shown_by(act, frozen(start), answers)


def shown_by(act, start, answers):
    """As show_of, for what is known to be right, with tuples alone."""
    entries, last, _ = gone_through(act, start, answers)
    return (events_of(entries), rest_of(act, last))


def judge_answers(answers):
    """Raises that these are no string of few enough answers."""
    if not is_short_string(answers):
        raise BadAnswer(-1)
    for k, answer in enumerate(answers):
        if not is_answer(answer):
            raise BadAnswer(k)


def is_short_string(thing):
    """Whether it is a string of no more characters than there can be answers."""
    return isinstance(thing, str) and len(thing) <= MOST_ANSWERS


def is_answer(character):
    """Whether the character is one of the two answers."""
    return character == "0" or character == "1"


def gone_through(act, start, answers):
    """The entries and the last standing of the play, and how many answers were asked for and good.

    An entry is a triple (gesture, manner, sight) for a stroke, and the string for an answer.
    """
    entries = []
    asked = 0
    run = run_of(act, (0, start))
    entries.extend(strokes_of(act, run))
    while asked < len(answers) and is_answer(answers[asked]) and rest_of(act, run[-1]) == "ask":
        answer = answers[asked]
        entries.append(answer)
        run = run_of(act, followers_of(act, run[-1])[int(answer)])
        entries.extend(strokes_of(act, run))
        asked += 1
    return (tuple(entries), run[-1], asked)


def strokes_of(act, run):
    """The triples (gesture, manner, sight) of the strokes that are done in a run."""
    strokes = []
    # The standing at rest does nothing more: if it is a stroke, it is stuck.
    for k in range(len(run) - 1):
        cue = act.cues[run[k][0]]
        if cue[0] == "do":
            world = run[k + 1][1]
            strokes.append((cue[1], cue[2], sight_of(act.craft, cue[1], world)))
    return strokes


def events_of(entries):
    """The entries of a play as the guests see them."""
    return tuple([entry if isinstance(entry, str) else (entry[0], entry[2]) for entry in entries])
