"""The method of a plot, written out as an act."""

from shownempty.acts import Act
from shownempty.errors import Lost
from shownempty.making import Making
from shownempty.search import reached_from


def written(plot, start):
    """The act that does the plot from the start as its method tells."""
    making = Making(plot, start)
    if not making:
        raise Lost(start)
    first = (0, making.start)
    leads = method_from(making, first)
    order = [first] + sorted([standing for standing in leads if standing != first])
    numbers = {}
    cues = []
    # Which numbers the cues of later standings have is known only when all have been gone through.
    for standing, following in zip(order, order[1:] + [None]):
        numbers[standing] = len(cues)
        cues.extend(cues_for(making, standing, leads[standing], following))
    return Act(plot.craft, [numbered(cue, numbers) for cue in cues])


def method_from(making, first):
    """The standings to which the method and the answers lead from the first one, each with those behind it."""
    def leads(standing):
        return [making.plot.behind(standing, way) for way in ways_at(making, standing)]

    return reached_from(first, leads, None, "standing")


def ways_at(making, standing):
    """The option of the method, or the answers, at a standing."""
    what = making.plot.cues[standing[0]][0]
    if what == "show":
        return [making.method(standing)]
    return ["0", "1"] if what == "ask" else []


def cues_for(making, standing, behind, following):
    """The cues that are written for a standing, with standings in the place of the numbers of cues."""
    cue = making.plot.cues[standing[0]]
    if cue[0] != "show":
        return [(cue[0],) + tuple(behind)]
    stroke = ("do", cue[1], making.method(standing)[0])
    return [stroke] if behind[0] == following else [stroke, ("go", behind[0])]


def numbered(cue, numbers):
    """The cue with the numbers of the cues of its standings."""
    return cue if cue[0] == "do" else (cue[0],) + tuple([numbers[standing] for standing in cue[1:]])
