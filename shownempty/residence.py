"""Residences: evenings whose acts can be called again and again, for ever."""

from shownempty.backstage import Backstage
from shownempty.forms import frozen, is_from, is_row
from shownempty.games import DRAWS, MEETS, PICKS, delays_of
from shownempty.tables import first_numbers, first_wrong
from shownempty.worlds import is_world


class Residence:
    """Whether an evening can go on for ever: its sound worlds, or the delays of the lost ones."""

    def __init__(self, evening):
        self._delays = delays_of(game_of(evening))
        self.evening = evening
        sound = tuple([world for world in evening.worlds if world not in self._delays])
        lost = tuple([(world, self._delays[world]) for world in evening.worlds if world in self._delays])
        self.table = lost if evening.start in self._delays else sound

    def __bool__(self):
        return bool(self.evening.start not in self._delays)

    def __len__(self):
        return len(self.table)

    def __iter__(self):
        return iter(self.table)


def game_of(evening):
    """The game among the worlds: the guests call an act, the conjuror prepares, they bring it to one of its ends."""
    names = [piece[0] for piece in evening]
    game = {}
    for world in evening.worlds:
        game[world] = (MEETS, [(0, ("called", name, world)) for name in names])
        for name in names:
            goals = [goal for goal in evening.preparings(world) if evening.is_good(name, goal)]
            game[("called", name, world)] = (PICKS, [(0, ("done", name, goal)) for goal in goals])
            for goal in goals:
                game[("done", name, goal)] = (DRAWS, [(0, end) for end in evening.ends(name, goal)])
    return game


def judge_worlds(evening, table):
    """None if the table is right, -1 if the start is lacking, otherwise the number of the first bad row."""
    there = {frozen(row): True for row in table if is_world(row, len(evening.start))}
    if evening.start not in there:
        return -1
    backstage = Backstage(evening.pieces, evening.pockets, None)
    return first_wrong([is_world(row, len(evening.start)) and is_kept(backstage, frozen(row), there) for row in table])


def is_kept(backstage, world, there):
    """Whether for each piece some world can be prepared from which the act is good and all its ends are there."""
    return all([any([all([end in there for end in ends]) for _, ends in backstage.calls(piece[0], world)])
                for piece in backstage.pieces])


def judge_delays(evening, table):
    """None if the table is right, -1 if the start is lacking, otherwise the number of the first bad row."""
    size = len(evening.start)
    delays = first_numbers([row for row in table if is_delayed(row, size)])
    if evening.start not in delays:
        return -1
    backstage = Backstage(evening.pieces, evening.pockets, None)
    return first_wrong([is_delayed(row, size) and is_failing(backstage, frozen(row[0]), row[1], delays)
                        for row in table])


def is_delayed(row, size):
    """Whether the row is a pair of a world and an integer from 1."""
    return is_row(row) and len(row) == 2 and is_world(row[0], size) and is_from(row[1], 1)


def is_failing(backstage, world, delay, delays):
    """Whether for some piece each world that can be prepared and is good has an end with a lesser delay."""
    return any([all([any([end in delays and delays[end] < delay for end in ends])
                     for _, ends in backstage.calls(piece[0], world)])
                for piece in backstage.pieces])
