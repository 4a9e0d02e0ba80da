"""Lots of members, looked through by their numbers."""


def lots_of(members, number):
    """All lots of so many of the members, which are ascending; the lots are ascending, too."""
    lots = [()]
    for _ in range(number):
        lots = [lot + (member,) for lot in lots for member in members if lot == () or lot[-1] < member]
    return lots


def least_lots(members, has):
    """The least lots of the members with a property, which is asked of no lot that has such a one within it."""
    least = []
    for number in range(len(members) + 1):
        for lot in lots_of(members, number):
            if not any([is_part(small, lot) for small in least]) and has(lot):
                least.append(lot)
    return tuple(least)


def is_part(small, lot):
    """Whether all members of the one are members of the other."""
    return all([member in lot for member in small])


def first_hitting(members, groups):
    """The first of the lots with the fewest members that has one in each of the groups.

    No group is empty, and all that they have are members.
    """
    bits = {member: 1 << k for k, member in enumerate(members)}
    wanted = sorted(set([sum([bits[member] for member in group]) for group in groups]))
    for number in range(len(members) + 1):
        for lot in lots_of(members, number):
            if hits(sum([bits[member] for member in lot]), wanted):
                return lot
    return None


def hits(chosen, wanted):
    """Whether the chosen bits have one of each of the wanted numbers."""
    for bits in wanted:
        if chosen & bits == 0:
            return False
    return True
