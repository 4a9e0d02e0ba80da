"""How often something is let in all, as slips of the hand or challenges: so many times, or any number of times."""

from shownempty.errors import BadMost
from shownempty.forms import is_whole

MOST_COUNTED = 3


def judge_limit(most):
    """Raises that this is no number of times that are let."""
    if most is not None and not is_whole(most, 0, MOST_COUNTED):
        raise BadMost(most)


def is_count(thing, most):
    """Whether it can tell how often something has happened, if it is let so often; 0 if any number is let."""
    return is_whole(thing, 0, 0 if most is None else most)


def is_let(made, most):
    """Whether something may happen once more that has happened so often."""
    return most is None or made < most


def counted(made, most):
    """How often it has happened when it has happened once more; it is not counted if any number is let."""
    return 0 if most is None else made + 1


def greatest_borne(is_borne):
    """The greatest number of times that is borne, -1 if not even none is, None if any number is.

    It is asked of all of them, so that what is raised for one of them is raised in any case.
    """
    borne = [number for number in range(MOST_COUNTED + 1) if is_borne(number)]
    return None if is_borne(None) else max([-1] + borne)
