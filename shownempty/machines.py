"""Machines: what acts show, with no more states than are needed."""

from shownempty.acts import rest_of
from shownempty.errors import NoState
from shownempty.forms import is_whole
from shownempty.passages import Passages
from shownempty.plays import judge_answers
from shownempty.settling import labels_by_length
from shownempty.standings import Standings


class Machine:
    """The least machine of an act from a start."""

    def __init__(self, act, start):
        standings = Standings(act, start)
        passages = Passages(act)
        states = states_of(standings, passages)
        self.act = act
        self.start = standings.start
        self.opening = passage_to(states, passages.from_start(self.start))
        rows = {}
        for ask, state in states.items():
            rows[state] = tuple([passage_to(states, passage) for passage in passages.behind(ask)])
        self.table = tuple([rows[state] for state in sorted(list(rows))])

    def __len__(self):
        return len(self.table)

    def __iter__(self):
        return iter(self.table)

    def __getitem__(self, at):
        if not is_whole(at, 0, len(self.table) - 1):
            raise NoState(at)
        return self.table[at]

    def __eq__(self, other):
        return isinstance(other, Machine) and self.opening == other.opening and self.table == other.table

    def show(self, answers):
        """What the machine shows for the answers, as far as it asks for them."""
        judge_answers(answers)
        events, following = self.opening
        for answer in answers:
            if isinstance(following, str):
                return (events, following)
            more, following = self.table[following][int(answer)]
            events = events + (answer,) + more
        return (events, following if isinstance(following, str) else "ask")


def states_of(standings, passages):
    """The number of the state of each standing at an ask, in the order of their least answers."""
    asks = [standing for standing in standings if rest_of(standings.act, standing) == "ask"]
    labels = last_labels({ask: passages.behind(ask) for ask in asks})
    numbers = {}
    for _, _, ask in sorted([(len(standings[ask]), standings[ask], ask) for ask in asks]):
        numbers.setdefault(labels[ask], len(numbers))
    return {ask: numbers[labels[ask]] for ask in asks}


def last_labels(behind):
    """The same label for those standings at an ask behind which the same is shown for all answers."""
    last = {}
    for labels in labels_by_length(behind):
        last = labels
    return last


def passage_to(states, passage):
    """The events of a run, with the state in which it ends, or its rest."""
    events, rest, standing = passage
    return (events, states[standing] if rest == "ask" else rest)
