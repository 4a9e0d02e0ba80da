"""All that can be reached from something, also with the least row that leads to each."""

from shownempty.errors import TooMany


def reached_from(first, leads, most, word):
    """All that can be reached from the first thing, each with the things to which it leads.

    TooMany(word) if more than most can; there is no most if it is None.
    """
    found = {}
    waiting = [first]
    while len(waiting) > 0:
        thing = waiting.pop()
        if thing not in found:
            found[thing] = leads(thing)
            if most is not None and len(found) > most:
                raise TooMany(word)
            waiting.extend(found[thing])
    return found


def least_rows(firsts, ways, most, word):
    """The least row that leads to each thing that can be reached; TooMany(word) if more than most can.

    The firsts are pairs (row, thing), ascending. The ways of a thing are pairs (more, thing): what the row grows by
    and where this leads, ascending; either all grow it by one entry, or none does. (Rows are strings or tuples.)
    """
    rows = {}
    level = firsts
    while len(level) > 0:
        # What can be left by a longer row alone waits for the next level.
        waiting = []
        fresh = level[::-1]
        while len(fresh) > 0:
            row, thing = fresh.pop()
            if thing not in rows:
                rows[thing] = row
                if len(rows) > most:
                    raise TooMany(word)
                at_once = [(row, behind) for more, behind in ways(thing) if len(more) == 0]
                fresh.extend(at_once)
                if len(at_once) == 0:
                    waiting.append(thing)
        # One row can lead to several things that wait: so what comes behind them is not in order by itself.
        level = sorted([(rows[left] + more, behind) for left in waiting for more, behind in ways(left)], key=row_of)
    return rows


def row_of(pair):
    """The row of a pair of a row and a thing."""
    return pair[0]


def answered(followers):
    """The ways to the followers of a standing: by the two answers, or without one."""
    if len(followers) == 2:
        return list(zip("01", followers))
    return [("", follower) for follower in followers]


def least_row(rows):
    """The least of some rows, None if there are none."""
    if len(rows) == 0:
        return None
    return min([(len(row), row) for row in rows])[1]
