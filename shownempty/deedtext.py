"""The texts of deeds."""

from shownempty.deeds import MOST_STEPS, can_go
from shownempty.errors import BadText

NO_STEPS = "-"
PLACES = "012345"
IN_STEP = 3


def write_deed(deed):
    """The text of a deed of any size."""
    if len(deed) == 0:
        return NO_STEPS
    return "".join([f"{what}{source}{goal}" for what, source, goal in deed])


def read_deed(text):
    """The deed that the text tells."""
    if not isinstance(text, str):
        raise BadText(-1)
    if text == NO_STEPS:
        return ()
    if text.startswith(NO_STEPS):
        raise BadText(1)
    for at in range(len(text)):
        if not can_stand(text, at):
            raise BadText(at)
    if text == "" or len(text) % IN_STEP != 0:
        raise BadText(len(text))
    return tuple([(text[k], int(text[k + 1]), int(text[k + 2])) for k in range(0, len(text), IN_STEP)])


def can_stand(text, at):
    """Whether the character can stand there in a text of steps, if all ahead of it are good."""
    if at == MOST_STEPS * IN_STEP:
        return False
    if at % IN_STEP == 0:
        return can_go(text[at])
    # What goes is no digit, so only a second place can equal what stands ahead of it.
    return text[at] in PLACES and text[at] != text[at - 1]
