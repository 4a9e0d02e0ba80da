"""Risks: what is done instead of a sleight if the hand slips."""

from shownempty.craft import judge_arts, judge_names
from shownempty.deeds import is_deed
from shownempty.errors import BadFail
from shownempty.forms import frozen, is_row


class Risks:
    """A craft, and the fails of those of its sleights by which the hand may slip."""

    def __init__(self, craft, fails):
        judge_fails(craft, fails)
        self.craft = craft
        self.fails = frozen(fails)
        self._deeds = {sleight: deed for sleight, deed in self.fails}

    @property
    def risky(self):
        """The lot of the sleights that have fails."""
        return tuple(sorted([fail[0] for fail in self.fails]))

    def __eq__(self, other):
        return isinstance(other, Risks) and self.craft == other.craft and self.fails == other.fails

    def fail_of(self, sleight):
        """The deed that is done if the hand slips, None if it never does by this sleight."""
        judge_arts(self.craft, (sleight,))
        return self._deeds.get(sleight)

    def practised(self, *sleights):
        """The risks without the fails of these sleights."""
        judge_arts(self.craft, sleights)
        return Risks(self.craft, [fail for fail in self.fails if fail[0] not in sleights])


def judge_fails(craft, fails):
    """Raises what is wrong with the fails."""
    if not is_row(fails):
        raise BadFail(-1)
    for k, fail in enumerate(fails):
        if not is_fail(craft, fail):
            raise BadFail(k)
    judge_names([fail[0] for fail in fails])


def is_fail(craft, thing):
    """Whether it is a pair of the name of a sleight and a deed of the size of the craft."""
    if not is_row(thing) or len(thing) != 2:
        return False
    return isinstance(thing[0], str) and thing[0] in craft.arts and is_deed(thing[1], craft.size)
