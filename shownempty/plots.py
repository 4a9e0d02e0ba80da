"""Plots: what the guests shall see, while it is left to the conjuror how."""

from shownempty.acts import is_ask, is_standing, judge_cues, number_of_cues
from shownempty.craft import sight_of
from shownempty.deeds import moved
from shownempty.errors import NoCue, NoOption, NoStanding
from shownempty.forms import begins_with_word, frozen, is_row, is_whole
from shownempty.worlds import fits, is_wish

MOST_OUTS = 4


class Plot:
    """A craft and cues, which tell what shall be seen and where the plot can go on."""

    def __init__(self, craft, cues):
        many = number_of_cues(cues)
        judge_cues([is_plot_cue(craft, cue, k, many) for k, cue in enumerate(cues)])
        self.craft = craft
        self.cues = frozen(cues)

    def __len__(self):
        return len(self.cues)

    def __getitem__(self, at):
        if not is_whole(at, 0, len(self.cues) - 1):
            raise NoCue(at)
        return self.cues[at]

    def __iter__(self):
        return iter(self.cues)

    def __eq__(self, other):
        return isinstance(other, Plot) and self.craft == other.craft and self.cues == other.cues

    def options(self, standing):
        """The pairs (manner, out) among which the conjuror can pick, none but at a show."""
        return tuple([option for option, _ in ways_on(self, self._standing(standing))])

    def behind(self, standing, option):
        """The standing behind an option, or at an ask behind an answer."""
        number, world = self._standing(standing)
        cue = self.cues[number]
        if cue[0] == "ask" and isinstance(option, str) and option in ("0", "1"):
            return (cue[1 + int(option)], world)
        if is_option(option):
            for known, follower in ways_on(self, (number, world)):
                if known == frozen(option):
                    return follower
        raise NoOption(option)

    def is_broken(self, standing):
        """Whether it is a show without options, or an end whose world does not fit the wish."""
        number, world = self._standing(standing)
        cue = self.cues[number]
        if cue[0] == "show":
            return len(ways_on(self, (number, world))) == 0
        return cue[0] == "end" and not fits(world, cue[1])

    def _standing(self, thing):
        if not is_standing(self, thing):
            raise NoStanding(thing)
        return frozen(thing)


def is_plot_cue(craft, thing, number, many):
    """Whether it can be the cue of a plot with this number among so many."""
    if not begins_with_word(thing):
        return False
    what = thing[0]
    if what == "show":
        return is_show(craft, thing, number, many)
    if what == "ask":
        return is_ask(thing, many)
    return what == "end" and len(thing) == 2 and is_wish(thing[1], craft.size)


def is_show(craft, cue, number, many):
    """Whether the rest of the cue tells a gesture and its outs."""
    if len(cue) != 3 or cue[1] not in craft:
        return False
    _, gesture, outs = cue
    if not is_row(outs) or not 1 <= len(outs) <= MOST_OUTS:
        return False
    shown = len(craft.places_of(gesture))
    return all([is_out(out, shown, number, many) for out in outs])


def is_out(thing, shown, number, many):
    """Whether it is a pair of a pattern for so many shown places and a later cue."""
    if not is_row(thing) or len(thing) != 2:
        return False
    return is_wish(thing[0], shown) and is_whole(thing[1], number + 1, many - 1)


def is_option(thing):
    """Whether it has the form of an option: a manner and the number of an out."""
    return (is_row(thing) and len(thing) == 2 and isinstance(thing[0], str)
            and is_whole(thing[1], 0, MOST_OUTS - 1))


def ways_on(plot, standing):
    """The options of a standing, in order, each with the standing behind it."""
    number, world = standing
    cue = plot.cues[number]
    if cue[0] != "show":
        return []
    ways = []
    for manner in plot.craft.manners_of(cue[1]):
        behind = moved(world, plot.craft.deed_of(cue[1], manner))
        if behind is not None:
            ways.extend([((manner, out), (target, behind)) for out, target in outs_fit_for(plot, number, behind)])
    return ways


def outs_fit_for(plot, number, world):
    """The outs of a show whose sights are fit if this world has come behind it, each with its target."""
    _, gesture, outs = plot.cues[number]
    sight = sight_of(plot.craft, gesture, world)
    return [(out, target) for out, (pattern, target) in enumerate(outs) if fits(sight, pattern)]
