"""How many classes of fillings are parted by rows of growing lengths, until no longer row parts more."""

from shownempty.errors import TooMany
from shownempty.fillings import acts_of
from shownempty.passages import Passages

MOST_RESTS = 2000


def levels_of(fillings):
    """For the lengths 0, 1, .. the number of the classes of the fillings, up to a length behind which no more come."""
    passages = {manners: Passages(act) for manners, act in acts_of(fillings).items()}
    firsts = [shown_by_run(manners, passages[manners].from_start(world)) for world, manners in fillings]
    behind = all_behind(passages, firsts)
    return [number_of_classes(firsts, labels) for labels in labels_by_length(behind)]


def labels_by_length(behind):
    """For the lengths 0, 1, .. labels of rests at an ask: the same one for those that no row of the length parts.

    Behind each rest are told, for each answer, triples of the events of a run, its rest, and what comes there; it is
    one of the rests that are told if this is at an ask, too, and otherwise none of them.
    """
    shown = numbered({rest: tuple([run[:2] for run in runs]) for rest, runs in behind.items()})
    labels = {rest: 0 for rest in behind}
    yield labels
    many = 0
    # Each round parts the rests by rows that are longer by one. Once it parts no more of them, no later one does.
    while number_of_different(labels) > many:
        many = number_of_different(labels)
        labels = numbered({rest: (shown[rest],) + tuple([labels.get(run[2]) for run in runs])
                           for rest, runs in behind.items()})
        yield labels


def number_of_different(labels):
    """How many different labels there are."""
    return len(set(list(labels.values())))


def shown_by_run(manners, passage):
    """The events and the rest of a run, and the manners and the standing if it is at an ask, otherwise None."""
    events, rest, standing = passage
    return (events, rest, (manners, standing) if rest == "ask" else None)


def all_behind(passages, firsts):
    """What is shown behind each rest at an ask to which plays come; raises that these are too many."""
    behind = {}
    number = 0
    for _, _, first in firsts:
        found = {} if first is None else {first: True}
        waiting = list(found)
        while len(waiting) > 0:
            rest = waiting.pop()
            manners, standing = rest
            behind[rest] = [shown_by_run(manners, passage) for passage in passages[manners].behind(standing)]
            fresh = sorted(set([later for _, _, later in behind[rest] if later is not None and later not in found]))
            for later in fresh:
                found[later] = True
            waiting.extend(fresh)
            if number + len(found) > MOST_RESTS:
                raise TooMany("rest")
        number += len(found)
    return behind


def labelled(run, labels):
    """What is shown by a run, with the label of the rest to which it leads."""
    events, rest, standing = run
    return (events, rest, labels.get(standing))


def numbered(tellings):
    """A number for each thing, the same one for those of which the same is told."""
    numbers = {}
    for telling in tellings.values():
        numbers.setdefault(telling, len(numbers))
    return {thing: numbers[telling] for thing, telling in tellings.items()}


def number_of_classes(firsts, labels):
    """How many different things are shown by runs whose rests have these labels."""
    return len(set([labelled(run, labels) for run in firsts]))
