"""The passages of an act: what is shown by its runs, and where they come to rest."""

from shownempty.acts import followers_of, rest_of, run_of
from shownempty.plays import events_of, strokes_of


class Passages:
    """The runs of an act behind answers, each gone through only once."""

    def __init__(self, act):
        self.act = act
        self._behind = {}

    def from_start(self, start):
        """The passage from the first standing."""
        return passage_from(self.act, (0, start))

    def behind(self, standing):
        """The passages behind the answers 0 and 1 at a standing at an ask."""
        if standing not in self._behind:
            self._behind[standing] = [passage_from(self.act, follower) for follower in followers_of(self.act, standing)]
        return tuple(self._behind[standing])


def passage_from(act, standing):
    """The events of the run from a standing, its rest, and the standing where it rests."""
    run = run_of(act, standing)
    return (events_of(strokes_of(act, run)), rest_of(act, run[-1]), run[-1])
