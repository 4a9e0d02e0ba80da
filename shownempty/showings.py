"""Showings of a length: the fewest that tell as much as all of them."""

from shownempty.acts import judge_start
from shownempty.errors import BadLength
from shownempty.fillings import Fillings, acts_of
from shownempty.forms import frozen, is_whole
from shownempty.guests import judge_held, judge_known
from shownempty.lots import first_hitting
from shownempty.plays import shown_by

MOST_LENGTH = 4


def fewest_showings(act, start, held, known, length):
    """The lot of the fewest rows that only those fillings fit that fit all rows of the length."""
    judge_start(act, start)
    fillings = fillings_for(act, held, known, length)
    rows = rows_of_length(length)
    truths = [shown_by(act, frozen(start), row) for row in rows]
    unfit = []
    for shows in shows_of(fillings, rows).values():
        unfit.append([row for row, truth, show in zip(rows, truths, shows) if show != truth])
    return first_hitting(rows, [group for group in unfit if len(group) > 0])


def fillings_for(act, held, known, length):
    """The fillings; raises what is wrong with them or with the length."""
    judge_held(act.craft, held)
    judge_known(act.craft, known)
    if not is_whole(length, 0, MOST_LENGTH):
        raise BadLength(length)
    return Fillings(act, held, known)


def rows_of_length(length):
    """All strings of so many answers, ascending."""
    rows = [""]
    for _ in range(length):
        rows = [row + answer for row in rows for answer in "01"]
    return rows


def shows_of(fillings, rows):
    """What each filling shows for the rows."""
    acts = acts_of(fillings)
    return {(world, manners): tuple([shown_by(acts[manners], world, row) for row in rows])
            for world, manners in fillings}
