"""Evenings: acts that the guests call in whatever order they like, and what the conjuror prepares between them."""

from shownempty.acts import Act
from shownempty.backstage import Backstage
from shownempty.craft import judge_names
from shownempty.deeds import is_deed, moved
from shownempty.errors import BadPiece, BadPocket, BadWorld, NoPiece, Unlike, Unreached
from shownempty.forms import frozen, is_name, is_row, is_whole
from shownempty.search import reached_from
from shownempty.worlds import is_wish, is_world

MOST_PIECES = 4
MOST_POCKETS = 6
MOST_POCKET_PRICE = 9
MOST_WORLDS = 200
MOST_STANDINGS = 600
NO_VALUE = -1


class Evening:
    """Pieces, pockets and a start, with all worlds to which preparings and good acts lead."""

    def __init__(self, pieces, pockets, start):
        judge_pieces(pieces)
        size = pieces[0][1].craft.size
        judge_pockets(pockets, size)
        if not is_world(start, size):
            raise BadWorld(start)
        self.pieces = frozen(pieces)
        self.pockets = frozen(pockets)
        self.start = frozen(start)
        self._backstage = Backstage(self.pieces, self.pockets, MOST_STANDINGS)
        self.worlds = worlds_of(self._backstage, self.start)
        self._calls = {}
        self._values = {(): {world: 0 for world in self.worlds}}

    def __len__(self):
        return len(self.pieces)

    def __iter__(self):
        return iter(self.pieces)

    def __contains__(self, x):
        return is_world(x, len(self.start)) and frozen(x) in self._values[()]

    def is_good(self, name, world):
        """Whether the act is good from the world."""
        return self.ends(name, world) is not None

    def ends(self, name, world):
        """The lot of the worlds in which the act ends, None if it is not good from the world."""
        known = self._world(world)
        self._judge_names((name,))
        return self._backstage.ends(name, known)

    def preparing(self, world, goal):
        """The price and the row of the cheapest preparing from the world to the goal, None if there is none."""
        known = self._world(world)
        return self._backstage.preparings(known).get(self._world(goal))

    def value(self, world, left):
        """The least price that is enough whatever the guests call of these acts, -1 if none is."""
        known = self._world(world)
        self._judge_names(left)
        return self._values_for(frozen(left))[known]

    def prepared(self, world, left, name):
        """The price of a preparing and the world that is best prepared when the act is called, None if none is good.
        """
        known = self._world(world)
        self._judge_names(left)
        if not isinstance(name, str) or name not in left:
            raise NoPiece(name)
        best = self._calls_of(frozen(left), name).get(known)
        return None if best is None else (best[2], best[1])

    def preparings(self, world):
        """For all worlds to which preparings lead from this world, what `preparing` tells."""
        found = self._backstage.preparings(self._world(world))
        return {goal: found[goal] for goal in found}

    def _world(self, thing):
        if thing not in self:
            raise Unreached(thing)
        return frozen(thing)

    def _judge_names(self, names):
        there = [piece[0] for piece in self.pieces]
        for name in names:
            if not isinstance(name, str) or name not in there:
                raise NoPiece(name)

    def _values_for(self, left):
        """The value of each world for this lot of names."""
        if left not in self._values:
            calls = [self._calls_of(left, name) for name in left]
            self._values[left] = {world: value_of([best.get(world) for best in calls]) for world in self.worlds}
        return self._values[left]

    def _calls_of(self, left, name):
        """What is best when this act of the lot is called, for each world where something is good."""
        if (left, name) not in self._calls:
            rest = tuple([other for other in left if other != name])
            self._calls[(left, name)] = best_calls(self, name, self._values_for(rest))
        return self._calls[(left, name)]


def judge_pieces(pieces):
    """Raises what is wrong with the pieces."""
    if not is_row(pieces) or not 1 <= len(pieces) <= MOST_PIECES:
        raise BadPiece(-1)
    for k, piece in enumerate(pieces):
        if not is_piece(piece):
            raise BadPiece(k)
    for piece in pieces:
        if not piece[1].craft == pieces[0][1].craft:
            raise Unlike("craft")
    judge_names([piece[0] for piece in pieces])


def is_piece(thing):
    """Whether it is a triple of a name, an act and a wish of its size."""
    if not is_row(thing) or len(thing) != 3 or not isinstance(thing[1], Act):
        return False
    return is_name(thing[0]) and is_wish(thing[2], thing[1].craft.size)


def judge_pockets(pockets, size):
    """Raises what is wrong with the pockets."""
    if not is_row(pockets) or len(pockets) > MOST_POCKETS:
        raise BadPocket(-1)
    for k, pocket in enumerate(pockets):
        if not is_pocket(pocket, size):
            raise BadPocket(k)


def is_pocket(thing, size):
    """Whether it is a pair of a deed of this size and a price."""
    return is_row(thing) and len(thing) == 2 and is_deed(thing[0], size) and is_whole(thing[1], 0, MOST_POCKET_PRICE)


def worlds_of(backstage, start):
    """The start and all worlds to which preparings and good acts lead, ascending; raises that they are too many."""
    def leads(world):
        moves = [moved(world, deed) for deed, _ in backstage.pockets]
        lots = [backstage.ends(piece[0], world) for piece in backstage.pieces]
        ends = [end for lot in lots if lot is not None for end in lot]
        return ends + [behind for behind in moves if behind is not None]

    return tuple(sorted(list(reached_from(start, leads, MOST_WORLDS, "world"))))


def best_calls(evening, name, later):
    """What is best when the act is called, if these are the values of the worlds behind it.

    For each world of the evening the triple (sum, world, price) of the first of those that can be prepared by which the
    sum of the price and the greatest value behind the act is the least; nothing where there is none.
    """
    worst = {}
    for world in evening.worlds:
        ends = evening.ends(name, world)
        if ends is not None and NO_VALUE not in [later[end] for end in ends]:
            worst[world] = max([later[end] for end in ends])
    found = {}
    for world in evening.worlds:
        sums = [(price + worst[goal], goal, price) for goal, (price, _) in evening.preparings(world).items()
                if goal in worst]
        if len(sums) > 0:
            found[world] = min(sums)
    return found


def value_of(bests):
    """The value of a world if these are the best calls there, None standing for one that cannot be answered."""
    return NO_VALUE if None in bests else max([best[0] for best in bests])
