"""All that can be reached from something, each with the least row that leads to it."""

from shownempty.errors import TooMany


def least_rows(firsts, ways, most, word):
    """The least row that leads to each thing that can be reached; TooMany(word) if more than most can.

    The firsts are pairs (row, thing), ascending. The ways of a thing are pairs (more, thing): what the row grows by
    and where this leads, ascending; either all grow it by one entry, or none does. (Rows are strings or tuples.)
    """
    rows = {}
    waiting = []
    fresh = firsts[::-1]
    k = 0
    while len(fresh) > 0:
        row, thing = fresh.pop()
        if thing not in rows:
            rows[thing] = row
            if len(rows) > most:
                raise TooMany(word)
            at_once = [(row, behind) for more, behind in ways(thing) if len(more) == 0]
            fresh.extend(at_once)
            if len(at_once) == 0:
                waiting.append(thing)
        # What can be left by a longer row alone waits: so all things come in the order of their least rows.
        while len(fresh) == 0 and k < len(waiting):
            left = waiting[k]
            fresh = [(rows[left] + more, behind) for more, behind in ways(left)][::-1]
            k += 1
    return rows


def answered(followers):
    """The ways to the followers of a standing: by the two answers, or without one."""
    if len(followers) == 2:
        return list(zip("01", followers))
    return [("", follower) for follower in followers]


def least_row(rows):
    """The least of some rows, None if there are none."""
    if len(rows) == 0:
        return None
    return min([(len(row), row) for row in rows])[1]
