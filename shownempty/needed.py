"""Which sleights of an act are needed for what it shows."""

from shownempty.acts import Act, judge_start
from shownempty.craft import Craft
from shownempty.errors import TooMany
from shownempty.lots import least_lots
from shownempty.machines import Machine

MOST_SECRETS = 6


def needed_lots(act, start):
    """The least lots of strokes with a sleight such that the act is seen alike if all others are honest."""
    judge_start(act, start)
    if len(act.secrets) > MOST_SECRETS:
        raise TooMany("sleight")
    machine = Machine(act, start)

    def is_enough(lot):
        return Machine(honest_but(act, lot), start) == machine

    return least_lots(act.secrets, is_enough)


def honest_but(act, lot):
    """The act in which only these strokes are done by a sleight."""
    honest = [number for number in act.secrets if number not in lot]
    return Act(act.craft, [cue[:2] + (Craft.HONEST,) if number in honest else cue for number, cue in enumerate(act)])
