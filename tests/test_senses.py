import itertools
import random

from shownempty.deeds import done
from shownempty.errors import BadDeed, BadSize
from shownempty.senses import sense
from shownempty.worlds import all_worlds
from tests.helpers import NO_INTEGERS, NO_TUPLES, Case, as_lists

SAME = (0, 1, 2)


def worlds_of(size, kinds, most):
    """All worlds of the size with at most so many things, all of these kinds."""
    words = ["".join(row) for many in range(most + 1) for row in itertools.combinations_with_replacement(kinds, many)]
    return [world for word in words for world in all_worlds(size, word)]


def steps_of(size, kinds):
    pairs = list(itertools.permutations(range(size), 2))
    return [(what, source, goal) for what in sorted("*~" + kinds) for source, goal in pairs]


def some_deeds(size, kinds, many):
    """So many deeds with 0 to 3 steps, the same each time."""
    chosen = random.Random(size)
    steps = steps_of(size, kinds)
    return [()] + [tuple(chosen.choices(steps, k=chosen.randint(1, 3))) for _ in range(many)]


def lie_there(world, places, kind):
    """How many things of the kind lie in the places together."""
    return sum(world[place].count(kind) for place in places)


def can_be_done(world, needs):
    return all(lie_there(world, places, kind) >= number for places, kind, number in needs)


class TestSenses(Case):

    def test_the_empty_deed(self):
        for size in range(2, 7):
            self.assertEqual(sense(size, ()), (tuple(range(size)), (), ()))

    def test_single_things(self):
        self.assertEqual(sense(3, (("a", 0, 1),)), (SAME, ((0, "a", -1), (1, "a", 1)), (((0,), "a", 1),)))
        self.assertEqual(sense(3, (("z", 2, 0),)), (SAME, ((0, "z", 1), (2, "z", -1)), (((2,), "z", 1),)))

    def test_all_and_exchange(self):
        self.assertEqual(sense(3, (("*", 0, 1),)), ((1, 1, 2), (), ()))
        self.assertEqual(sense(3, (("~", 0, 1),)), ((1, 0, 2), (), ()))
        self.assertEqual(sense(3, (("*", 0, 1), ("*", 1, 2))), ((2, 2, 2), (), ()))
        self.assertEqual(sense(3, (("~", 0, 1), ("~", 1, 2))), ((2, 0, 1), (), ()))
        self.assertEqual(sense(3, (("~", 0, 1), ("~", 0, 1))), (SAME, (), ()))
        self.assertEqual(sense(3, (("*", 0, 1), ("~", 0, 1))), ((0, 0, 2), (), ()))

    def test_there_and_back(self):
        self.assertEqual(sense(3, (("a", 0, 1), ("a", 1, 0))), (SAME, (), (((0,), "a", 1),)))
        self.assertEqual(sense(3, (("a", 0, 1), ("a", 1, 2))), (SAME, ((0, "a", -1), (2, "a", 1)), (((0,), "a", 1),)))

    def test_several_of_one_kind(self):
        deed = (("a", 0, 1),) * 3
        self.assertEqual(sense(3, deed), (SAME, ((0, "a", -3), (1, "a", 3)), (((0,), "a", 3),)))
        deed = (("a", 0, 2), ("b", 0, 2), ("a", 1, 2))
        nets = ((0, "a", -1), (0, "b", -1), (1, "a", -1), (2, "a", 2), (2, "b", 1))
        self.assertEqual(sense(3, deed), (SAME, nets, (((0,), "a", 1), ((0,), "b", 1), ((1,), "a", 1))))

    def test_exchanges_within_a_deed(self):
        nets = ((0, "a", 1), (2, "a", -1))
        self.assertEqual(sense(3, (("~", 0, 1), ("a", 2, 0))), ((1, 0, 2), nets, (((2,), "a", 1),)))
        self.assertEqual(sense(3, (("a", 2, 1), ("~", 0, 1))), ((1, 0, 2), nets, (((2,), "a", 1),)))
        # The thing that is laid there comes along.
        self.assertEqual(sense(3, (("a", 2, 1), ("~", 0, 1), ("a", 0, 2))), ((1, 0, 2), (), (((2,), "a", 1),)))
        nets = ((0, "a", -1), (2, "a", 1))
        self.assertEqual(sense(3, (("~", 0, 1), ("a", 0, 2))), ((1, 0, 2), nets, (((1,), "a", 1),)))

    def test_things_that_go_all_together(self):
        deed = (("*", 0, 1), ("a", 1, 2))
        self.assertEqual(sense(3, deed), ((1, 1, 2), ((1, "a", -1), (2, "a", 1)), (((0, 1), "a", 1),)))
        deed = (("a", 0, 2), ("*", 0, 1), ("a", 1, 2))
        # One in the place 0 is needed, and two in both together: the one does not follow from the other.
        self.assertEqual(sense(3, deed), ((1, 1, 2), ((1, "a", -2), (2, "a", 2)), (((0,), "a", 1), ((0, 1), "a", 2))))
        deed = (("a", 0, 1), ("*", 0, 1), ("a", 1, 2))
        self.assertEqual(sense(3, deed), ((1, 1, 2), ((1, "a", -1), (2, "a", 1)), (((0,), "a", 1),)))
        deed = (("a", 0, 1), ("*", 1, 2), ("a", 2, 0))
        self.assertEqual(sense(3, deed), ((0, 2, 2), (), (((0,), "a", 1),)))
        deed = (("*", 2, 0), ("*", 1, 0), ("b", 0, 1))
        self.assertEqual(sense(3, deed), ((0, 0, 0), ((0, "b", -1), (1, "b", 1)), (((0, 1, 2), "b", 1),)))

    def test_two_needs_that_follow_together(self):
        deed = (("a", 0, 2), ("a", 1, 2), ("*", 0, 1))
        needs = (((0,), "a", 1), ((1,), "a", 1))
        self.assertEqual(sense(3, deed), ((1, 1, 2), ((1, "a", -2), (2, "a", 2)), needs))
        deed = (("a", 0, 1), ("*", 1, 0), ("a", 0, 2))
        self.assertEqual(sense(3, deed)[2], (((0,), "a", 1),))

    def test_what_can_never_be_done(self):
        for deed in ((("*", 0, 1), ("a", 0, 1)), (("*", 0, 1), ("~", 0, 2), ("z", 2, 1)),
                     (("*", 0, 1), ("b", 1, 0), ("a", 0, 1)), (("*", 1, 2), ("*", 2, 0), ("a", 1, 0)),
                     (("~", 0, 1), ("*", 0, 1), ("a", 0, 2))):
            self.assertIsNone(sense(3, deed))
        self.assertIsNotNone(sense(3, (("*", 0, 1), ("a", 1, 0), ("a", 0, 1))))

    def test_lists(self):
        deed = [["a", 0, 2], ["*", 0, 1], ["a", 1, 2]]
        self.assertEqual(sense(3, deed), sense(3, (("a", 0, 2), ("*", 0, 1), ("a", 1, 2))))
        self.assert_plain(sense(3, deed))
        self.assertEqual(deed, [["a", 0, 2], ["*", 0, 1], ["a", 1, 2]])


class TestInEveryWorld(Case):
    """The sense against all small worlds; three things are enough for three steps, a fourth shows the rest."""

    def holds(self, size, deed, worlds, kinds):
        told = sense(size, deed)
        behind = [done(world, deed) for world in worlds]
        self.assertEqual(told is None, all(world is None for world in behind), deed)
        if told is None:
            return
        where, nets, needs = told
        for ahead, world in zip(worlds, behind):
            self.assertEqual(can_be_done(ahead, needs), world is not None, (deed, ahead))
            if world is not None:
                self.assertEqual(nets, self.nets_of(where, ahead, world, kinds), (deed, ahead))
        for k in range(len(needs)):
            others = needs[:k] + needs[k + 1:]
            self.assertTrue(any(can_be_done(world, others) and not can_be_done(world, needs) for world in worlds), deed)
        self.assertEqual((nets, needs), (tuple(sorted(nets)), tuple(sorted(needs))))

    def nets_of(self, where, ahead, world, kinds):
        rows = []
        for place, kind in itertools.product(range(len(where)), kinds):
            sources = [first for first, goal in enumerate(where) if goal == place]
            rows.append((place, kind, world[place].count(kind) - lie_there(ahead, sources, kind)))
        return tuple(row for row in rows if row[2] != 0)

    def test_deeds_of_the_size_2(self):
        worlds = worlds_of(2, "abc", 4)
        for many in range(4):
            for deed in itertools.product(steps_of(2, "ab"), repeat=many):
                self.holds(2, deed, worlds, "abc")

    def test_deeds_of_the_sizes_3_and_4(self):
        for size, many in ((3, 150), (4, 60)):
            worlds = worlds_of(size, "ab", 4)
            for deed in some_deeds(size, "ab", many):
                self.holds(size, deed, worlds, "ab")

    def test_alike_exactly_if_they_have_the_same_sense(self):
        worlds = worlds_of(3, "abc", 4)
        deeds = some_deeds(3, "ab", 80)
        deeds.extend([(("~", 0, 1), ("~", 0, 1)), (("*", 0, 1), ("a", 0, 2)), (("*", 1, 2), ("b", 1, 2))])
        told = [(sense(3, deed), [done(world, deed) for world in worlds]) for deed in deeds]
        for one, other in itertools.product(told, told):
            self.assertEqual(one[0] == other[0], one[1] == other[1])


class TestArguments(Case):

    def test_bad_sizes(self):
        for size in NO_INTEGERS + (-1, 0, 1, 7, 10 ** 39):
            self.refused(BadSize(size), sense, size, None)

    def test_bad_deeds(self):
        steps = (("a", 0, 2), ("a", 0, 0), ("a", -1, 0), ("A", 0, 1), ("ab", 0, 1), ("", 0, 1), ("?", 0, 1), (None, 0, 1),
                 ("a", False, 1), ("a", 0, True), ("a", 0), ("a", 0, 1, 1), (), "a01", None)
        long = (("a", 0, 1),) * 4
        deeds = [(step,) for step in steps] + [[("a", 0, 1), step] for step in steps] + [long, as_lists(long)]
        for deed in deeds + list(NO_TUPLES):
            self.refused(BadDeed(deed), sense, 2, deed)

    def test_three_steps_and_each_size(self):
        for size in range(2, 7):
            deed = (("a", 0, size - 1),) * 3
            self.assertEqual(sense(size, deed)[2], (((0,), "a", 3),))
            self.refused(BadDeed((("a", 0, size),)), sense, size, (("a", 0, size),))
