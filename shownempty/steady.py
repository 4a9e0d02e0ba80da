"""Steady readings: forces in which each answer is read in the same way whenever it is given."""

from shownempty.errors import TooMany
from shownempty.forces import NO_VALUE, first_stage, lets_of, values_of_stages

MOST_READINGS = 256


def steady(force):
    """The least value that a steady reading reaches, with the first one that reaches it; None if none does."""
    found = []
    for readings in steady_readings(force):
        lets = tuple([tuple([(reading,) for reading in row]) for row in readings])
        found.append((values_of_stages(force, lets, None)[first_stage(force)], readings))
    good = [pair for pair in found if pair[0] != NO_VALUE]
    return min(good) if len(good) > 0 else None


def steady_readings(force):
    """All steady readings; raises that these are too many."""
    rows = [()]
    for lets in lets_of(force):
        own = [()]
        for let in lets:
            own = [row + (reading,) for row in own for reading in let]
        rows = [row + (more,) for row in rows for more in own]
        if len(rows) > MOST_READINGS:
            raise TooMany("reading")
    return rows
