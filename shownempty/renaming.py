"""Renamings of places and kinds, and of all that is made of them."""

from shownempty.acts import Act
from shownempty.craft import Craft
from shownempty.deeds import one_word
from shownempty.errors import BadKinds, BadPlaces, BadWorld, Unlike
from shownempty.forms import frozen, is_kind, is_row, is_whole
from shownempty.plots import Plot
from shownempty.worlds import is_size, is_world


class Renaming:
    """For each place of a size the place that it becomes, and for some kinds the kinds that they become."""

    def __init__(self, places, kinds=()):
        if not are_places(places):
            raise BadPlaces(places)
        if not are_kinds(kinds):
            raise BadKinds(kinds)
        self.places = frozen(places)
        self.kinds = frozen(kinds)

    def __eq__(self, other):
        return isinstance(other, Renaming) and self.places == other.places and self.kinds == other.kinds

    def __mul__(self, other):
        if not isinstance(other, Renaming):
            return NotImplemented
        if len(self.places) != len(other.places):
            raise Unlike("size")
        named = sorted(set([kind for kind, _ in self.kinds + other.kinds]))
        return Renaming([other.places[place] for place in self.places],
                        [(kind, renamed(other.kinds, renamed(self.kinds, kind))) for kind in named])

    def __call__(self, world):
        if not is_world(world, len(self.places)):
            raise BadWorld(world)
        return self.of_pattern(world)

    def undone(self):
        """The renaming that leads back."""
        return Renaming([self.places.index(place) for place in range(len(self.places))],
                        sorted([(second, first) for first, second in self.kinds]))

    def of_place(self, place):
        """What becomes of a place; the face stays."""
        return self.places[place] if place < len(self.places) else place

    def of_kind(self, kind):
        """What becomes of a kind."""
        return renamed(self.kinds, kind)

    def of_deed(self, deed):
        """What becomes of a deed."""
        return tuple([(self.of_kind(what), self.of_place(source), self.of_place(goal))
                      for what, source, goal in deed])

    def of_pattern(self, pattern):
        """What becomes of a pattern with an item for each place."""
        return self._sight(list(range(len(self.places))), pattern)

    def of_craft(self, craft):
        """What becomes of a craft."""
        self._judge_size(craft)
        gestures = [(name, self.of_deed(meaning), self._places_of(shown)) for name, meaning, shown in craft.gestures]
        sleights = [(name, gesture, self.of_deed(deed), price, self._places_of(spots))
                    for name, gesture, deed, price, spots in craft.sleights]
        return Craft(craft.size, gestures, sleights)

    def of_act(self, act):
        """What becomes of an act."""
        self._judge_size(act.craft)
        return Act(self.of_craft(act.craft), [self._cue(cue) for cue in act.cues])

    def of_plot(self, plot):
        """What becomes of a plot."""
        self._judge_size(plot.craft)
        return Plot(self.of_craft(plot.craft), [self._plot_cue(plot.craft, cue) for cue in plot.cues])

    def of_seen(self, craft, seen):
        """What becomes of things that are seen in a craft."""
        self._judge_size(craft)
        return tuple([event if isinstance(event, str) else (event[0], self._sight(craft.places_of(event[0]), event[1]))
                      for event in seen])

    def _cue(self, cue):
        if cue[0] != "glance":
            return cue
        return ("glance", self.of_place(cue[1]), self.of_kind(cue[2]), cue[3])

    def _plot_cue(self, craft, cue):
        if cue[0] == "show":
            shown = craft.places_of(cue[1])
            return ("show", cue[1], [(self._sight(shown, sight), target) for sight, target in cue[2]])
        return ("end", self.of_pattern(cue[1])) if cue[0] == "end" else cue

    def _places_of(self, places):
        return tuple(sorted([self.of_place(place) for place in places]))

    def _sight(self, places, sight):
        """What becomes of the words that are seen in these places, in the order of the places that these become."""
        items = sorted([(self.of_place(place), k) for k, place in enumerate(places)])
        return tuple([self._word(sight[k]) for _, k in items])

    def _word(self, word):
        return None if word is None else one_word([self.of_kind(kind) for kind in word])

    def _judge_size(self, craft):
        if craft.size != len(self.places):
            raise Unlike("size")


def renamed(kinds, kind):
    """What becomes of a kind by these pairs of kinds; one that is not named stays."""
    for first, second in kinds:
        if first == kind:
            return second
    return kind


def are_places(thing):
    """Whether it has, for each place of a size, the place that it becomes, each place once."""
    if not is_row(thing) or not is_size(len(thing)) or not all([is_whole(part, 0, len(thing) - 1) for part in thing]):
        return False
    return len(set(thing)) == len(thing)


def are_kinds(thing):
    """Whether it is a tuple of pairs of letters, no first one twice, and the second ones the same letters."""
    if not is_row(thing) or not all([is_row(pair) and len(pair) == 2 for pair in thing]):
        return False
    if not all([is_kind(kind) for pair in thing for kind in pair]):
        return False
    firsts = [pair[0] for pair in thing]
    return len(set(firsts)) == len(firsts) and sorted(firsts) == sorted([pair[1] for pair in thing])
