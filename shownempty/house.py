"""The house: crafts, acts and plots that are kept by names, and what has been done with them."""

from shownempty.errors import BadName, InUse, NoDeed, TooMany, Twice, Unknown, Unlike
from shownempty.forms import is_name

MOST_THINGS = 30
CRAFT = "craft"
ACT = "act"
PLOT = "plot"
STRIKE = "strike"


class House:
    """Things that are kept by names, and the deeds by which they have come and gone.

    A deed is a tuple (what, name, of, thing): what is added, its name, the name of its craft (None for a craft) and the
    thing itself; for what is struck there are neither of the last two.
    """

    def __init__(self):
        self._kept = {}
        # Each deed that is done stands beside what was kept ahead of it, each that is undone beside what was kept
        # behind it: so a thing that comes back comes to its old place.
        self._done = []
        self._undone = []

    @property
    def deeds(self):
        """The number of deeds that are not undone."""
        return len(self._done)

    def __len__(self):
        return len(self._kept)

    def __iter__(self):
        return iter(self._kept)

    def __contains__(self, x):
        return isinstance(x, str) and x in self._kept

    def __getitem__(self, at):
        return self._added(at)[3]

    def __eq__(self, other):
        # What is undone does not count.
        return (isinstance(other, House)
                and [deed for deed, _ in self._done] == [deed for deed, _ in other._done])

    def keep_craft(self, name, craft):
        """Adds a craft."""
        self.judge_new(name)
        self._add((CRAFT, name, None, craft))

    def keep_act(self, name, of, act):
        """Adds an act of the craft that is kept by the name `of`."""
        self._add_made(ACT, name, of, act)

    def keep_plot(self, name, of, plot):
        """Adds a plot of the craft that is kept by the name `of`."""
        self._add_made(PLOT, name, of, plot)

    def strike(self, name):
        """Strikes a thing."""
        if not is_name(name):
            raise BadName(name)
        self._added(name)
        for other in self:
            if self._kept[other][2] == name:
                raise InUse(other)
        self._do((STRIKE, name, None, None), {other: self._kept[other] for other in self if other != name})

    def undo(self):
        """Takes back the last deed that is not undone."""
        if len(self._done) == 0:
            raise NoDeed()
        deed, before = self._done.pop()
        self._undone.append((deed, self._kept))
        self._kept = before

    def redo(self):
        """Does again what was undone last."""
        if len(self._undone) == 0:
            raise NoDeed()
        deed, behind = self._undone.pop()
        self._done.append((deed, self._kept))
        self._kept = behind

    def craft_of(self, name):
        """The name of the craft of an act or a plot, None for a craft."""
        return self._added(name)[2]

    def copy(self):
        """Another house with the same deeds, done and undone."""
        house = House()
        house._kept = self._kept
        house._done = list(self._done)
        house._undone = list(self._undone)
        return house

    def history(self):
        """The deeds that are not undone, in order."""
        return tuple([deed for deed, _ in self._done])

    def has_craft(self, name):
        """Whether a craft is kept by this name."""
        return name in self and self._kept[name][0] == CRAFT

    def judge_new(self, name):
        """Raises that no thing can be added by this name."""
        if not is_name(name):
            raise BadName(name)
        if name in self:
            raise Twice(name)

    def judge_made(self, name, of):
        """Raises that nothing that is made of the craft with the name `of` can be added by this name."""
        self.judge_new(name)
        if not self.has_craft(of):
            raise Unknown(of)

    def _add_made(self, what, name, of, thing):
        self.judge_made(name, of)
        if not self[of] == thing.craft:
            raise Unlike("craft")
        self._add((what, name, of, thing))

    def _add(self, deed):
        if len(self._kept) == MOST_THINGS:
            raise TooMany("thing")
        kept = {other: self._kept[other] for other in self}
        kept[deed[1]] = deed
        self._do(deed, kept)

    def _do(self, deed, kept):
        self._done.append((deed, self._kept))
        self._undone = []
        self._kept = kept

    def _added(self, name):
        """The deed by which what is kept by this name has been added."""
        if name not in self:
            raise Unknown(name)
        return self._kept[name]
