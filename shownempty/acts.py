"""Acts: programs of gestures that ask the guests now and then."""

from shownempty.craft import Craft
from shownempty.deeds import moved
from shownempty.errors import BadCue, BadWorld, NoCue, NoStanding, TooMany, Unlike
from shownempty.forms import begins_with_word, frozen, is_kind, is_row, is_whole
from shownempty.worlds import is_world

MOST_CUES = 60


class Act:
    """A craft and cues, which are gone through from the first one on."""

    def __init__(self, craft, cues):
        many = number_of_cues(cues)
        judge_cues([is_cue(craft, cue, k, many) for k, cue in enumerate(cues)])
        self.craft = craft
        self.cues = frozen(cues)

    @property
    def strokes(self):
        """The numbers of the cues that are a stroke."""
        return tuple([k for k, cue in enumerate(self.cues) if cue[0] == "do"])

    @property
    def secrets(self):
        """The numbers of the strokes that are done by a sleight."""
        return tuple([k for k in self.strokes if self.cues[k][2] != Craft.HONEST])

    def __len__(self):
        return len(self.cues)

    def __getitem__(self, at):
        if not is_whole(at, 0, len(self.cues) - 1):
            raise NoCue(at)
        return self.cues[at]

    def __iter__(self):
        return iter(self.cues)

    def __eq__(self, other):
        return isinstance(other, Act) and self.craft == other.craft and self.cues == other.cues

    def __add__(self, other):
        if not isinstance(other, Act):
            return NotImplemented
        if not self.craft == other.craft:
            raise Unlike("craft")
        behind = len(self.cues)
        cues = [("go", behind) if cue[0] == "end" else cue for cue in self.cues]
        cues.extend([shifted(cue, behind) for cue in other.cues])
        return Act(self.craft, cues)

    def followers(self, standing):
        """The standings to which this one leads."""
        return followers_of(self, self._standing(standing))

    def rest_at(self, standing):
        """The rest of the standing, None if it is not at rest."""
        return rest_of(self, self._standing(standing))

    def run_from(self, standing):
        """The standings from this one to the first one at rest."""
        return run_of(self, self._standing(standing))

    def _standing(self, thing):
        if not is_standing(self, thing):
            raise NoStanding(thing)
        return frozen(thing)


def number_of_cues(cues):
    """How many cues there are; raises that they are no tuple of at least one thing."""
    if not is_row(cues) or len(cues) == 0:
        raise BadCue(-1)
    return len(cues)


def judge_cues(goods):
    """Raises the first cue that is not good, as is told for each of them, then that there are too many."""
    for k, good in enumerate(goods):
        if not good:
            raise BadCue(k)
    if len(goods) > MOST_CUES:
        raise TooMany("cue")


def is_cue(craft, thing, number, many):
    """Whether it can be the cue with this number among so many."""
    if not begins_with_word(thing):
        return False
    what = thing[0]
    if what == "do":
        return number < many - 1 and is_do(craft, thing)
    if what == "ask":
        return is_ask(thing, many)
    if what == "glance":
        return is_glance(craft, thing, number, many)
    if what == "go":
        return len(thing) == 2 and is_whole(thing[1], number + 1, many - 1)
    return what == "end" and len(thing) == 1


def is_do(craft, cue):
    """Whether the rest of the cue tells a stroke."""
    if len(cue) != 3:
        return False
    _, gesture, manner = cue
    return gesture in craft and isinstance(manner, str) and manner in craft.manners_of(gesture)


def is_ask(cue, many):
    """Whether the rest of the cue tells two cues among so many."""
    return len(cue) == 3 and is_whole(cue[1], 0, many - 1) and is_whole(cue[2], 0, many - 1)


def is_glance(craft, cue, number, many):
    """Whether the rest of the cue tells a place, a kind and a later cue."""
    if len(cue) != 4:
        return False
    _, place, kind, target = cue
    return is_look(craft, place, kind) and is_whole(target, number + 1, many - 1)


def is_look(craft, place, kind):
    """Whether it is a place of the craft, and a kind for which one can look there."""
    return is_whole(place, 0, craft.size - 1) and is_kind(kind)


def judge_start(act, start):
    """Raises that this is no start of an act, or of a plot."""
    if not is_world(start, act.craft.size):
        raise BadWorld(start)


def is_standing(act, thing):
    """Whether it is a pair of the number of a cue (of an act, or a plot) and a world of the size."""
    if not is_row(thing) or len(thing) != 2:
        return False
    return is_whole(thing[0], 0, len(act.cues) - 1) and is_world(thing[1], act.craft.size)


def shifted(cue, many):
    """The cue with all its numbers of cues greater by so many."""
    if cue[0] == "ask":
        return ("ask", cue[1] + many, cue[2] + many)
    if cue[0] == "glance":
        return ("glance", cue[1], cue[2], cue[3] + many)
    if cue[0] == "go":
        return ("go", cue[1] + many)
    return cue


def followers_of(act, standing):
    """As the method, for what is known to be a standing, with tuples alone."""
    number, world = standing
    cue = act.cues[number]
    if cue[0] == "do":
        behind = moved(world, act.craft.deed_of(cue[1], cue[2]))
        return () if behind is None else ((number + 1, behind),)
    if cue[0] == "ask":
        return ((cue[1], world), (cue[2], world))
    if cue[0] == "glance":
        place, kind, target = cue[1:]
        return ((target if kind in world[place] else number + 1, world),)
    if cue[0] == "go":
        return ((cue[1], world),)
    return ()


def rest_of(act, standing):
    """As the method, for what is known to be a standing, with tuples alone."""
    what = act.cues[standing[0]][0]
    if what == "ask" or what == "end":
        return what
    return "stuck" if followers_of(act, standing) == () else None


def run_of(act, standing):
    """As the method, for what is known to be a standing, with tuples alone."""
    run = [standing]
    followers = followers_of(act, standing)
    # A standing at rest has two followers, or none.
    while len(followers) == 1:
        run.append(followers[0])
        followers = followers_of(act, followers[0])
    return tuple(run)
