"""Classes of fillings that no showing of a length parts, and how they are parted by few showings."""

from shownempty.errors import TooMany
from shownempty.fillings import Fillings
from shownempty.lots import first_hitting
from shownempty.settling import levels_of
from shownempty.showings import fillings_for, rows_of_length, shows_of

MOST_CLASSES = 12


class Classes:
    """The classes of the fillings of an act for a length, and the rows by which they are parted."""

    def __init__(self, act, held, known, length):
        fillings = fillings_for(act, held, known, length)
        self.act = act
        self.held = fillings.held
        self.known = fillings.known
        self.length = length
        rows = rows_of_length(length)
        grouped = grouped_by(shows_of(fillings, rows))
        self.table = tuple([tuple(members) for members in grouped.values()])
        if len(self.table) > MOST_CLASSES:
            raise TooMany("class")
        tellings = list(grouped)
        self.ahead = first_hitting(rows, partings_of(tellings, rows))
        depths = {}
        every = tuple(range(len(tellings)))
        self.depth = depth_of(every, tellings, depths)
        self.tree = tree_of(every, tellings, rows, depths)

    def __len__(self):
        return len(self.table)

    def __iter__(self):
        return iter(self.table)


def grouped_by(shows):
    """For all that is shown, the fillings that show it, in their order."""
    grouped = {}
    for filling, telling in shows.items():
        grouped.setdefault(telling, []).append(filling)
    return grouped


def partings_of(tellings, rows):
    """For each two classes, the rows by which they are parted."""
    return [[row for k, row in enumerate(rows) if one[k] != tellings[at][k]]
            for before, one in enumerate(tellings) for at in range(before + 1, len(tellings))]


def split_by(classes, k, tellings):
    """The classes by what they show for the row with the number k, in the order of the first ones that show it."""
    parts = {}
    for number in classes:
        parts.setdefault(tellings[number][k], []).append(number)
    return {shown: tuple(part) for shown, part in parts.items()}


def depth_of(classes, tellings, depths):
    """The depth of some classes; those that are found out are kept in the depths."""
    if len(classes) <= 1:
        return 0
    if classes not in depths:
        depths[classes] = min([depth for depth in depths_by_rows(classes, tellings, depths) if depth is not None])
    return depths[classes]


def depths_by_rows(classes, tellings, depths):
    """For each row the depth of some classes if it is shown first, None if it parts none of them."""
    found = []
    for k in range(len(tellings[0])):
        parts = list(split_by(classes, k, tellings).values())
        if len(parts) == 1:
            found.append(None)
        else:
            found.append(1 + max([depth_of(part, tellings, depths) for part in parts]))
    return found


def tree_of(classes, tellings, rows, depths):
    """The tree of some classes."""
    if len(classes) <= 1:
        return ()
    k = depths_by_rows(classes, tellings, depths).index(depth_of(classes, tellings, depths))
    parts = split_by(classes, k, tellings)
    return (rows[k], tuple([(shown, tree_of(part, tellings, rows, depths)) for shown, part in parts.items()]))


def settled(act, held, known):
    """The least length by whose rows all fillings are parted that are parted by some answers."""
    levels = levels_of(Fillings(act, held, known))
    # Longer rows part whatever shorter ones do: so as many classes are the same classes.
    return levels.index(levels[-1])
