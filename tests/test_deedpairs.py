import itertools

from shownempty.deedpairs import DeedPair, short_deed
from shownempty.deeds import done
from shownempty.errors import BadDeed, BadSize
from shownempty.senses import sense
from tests.helpers import NO_INTEGERS, NO_TUPLES, Case, as_lists, spoil
from tests.test_senses import some_deeds, steps_of, worlds_of

TAKE = (("a", 0, 1),)
SWAP = (("~", 0, 1),)
MOVE = (("*", 0, 1),)
NEVER = (("*", 0, 1), ("a", 0, 1))


def named_in(*deeds):
    """The kinds that the deeds name."""
    return {step[0] for deed in deeds for step in deed} - set("*~")


class TestPairs(Case):

    def parted(self, world, size, first, second):
        for one, other in ((first, second), (second, first)):
            pair = DeedPair(size, one, other)
            self.assertIs(bool(pair), False)
            self.assertEqual(pair.world, world)
            self.assertNotEqual(done(world, one), done(world, other))

    def alike(self, size, first, second):
        for one, other in ((first, second), (second, first)):
            pair = DeedPair(size, one, other)
            self.assertIs(bool(pair), True)
            self.assertIsNone(pair.world)

    def test_attributes(self):
        pair = DeedPair(2, TAKE, SWAP)
        self.assertEqual((pair.size, pair.first, pair.second), (2, TAKE, SWAP))
        self.assertEqual(DeedPair(second=SWAP, first=TAKE, size=2).world, pair.world)

    def test_lists_are_kept_as_tuples(self):
        first, second = as_lists(TAKE), as_lists(SWAP)
        pair = DeedPair(2, first, second)
        spoil(first)
        spoil(second)
        self.assertEqual((pair.first, pair.second), (TAKE, SWAP))
        self.assert_plain((pair.first, pair.second, pair.world))
        self.assertIs(bool(DeedPair(2, [], ())), True)
        self.assertEqual(DeedPair(2, [], []).first, ())

    def test_alike(self):
        self.alike(2, (), ())
        self.alike(2, (), SWAP + SWAP)
        self.alike(3, MOVE, MOVE + MOVE)
        self.alike(3, (("a", 0, 1), ("b", 0, 2)), (("b", 0, 2), ("a", 0, 1)))
        self.alike(3, (("a", 0, 1), ("a", 1, 2)), (("a", 0, 2),))
        self.alike(3, NEVER, (("*", 2, 1), ("z", 2, 0)))
        self.alike(6, (("*", 0, 1), ("*", 2, 3), ("*", 4, 5)), (("*", 4, 5), ("*", 2, 3), ("*", 0, 1)))

    def test_parted_without_things(self):
        self.parted(("", ""), 2, (), TAKE)
        self.parted(("", ""), 2, NEVER, SWAP)

    def test_parted_by_one_thing(self):
        self.parted(("", "a"), 2, SWAP, MOVE)
        self.parted(("a", ""), 2, (), MOVE)
        self.parted(("a", ""), 2, TAKE, NEVER)
        self.parted(("", "", "a"), 3, (("~", 0, 1),), (("~", 0, 2),))

    def test_parted_by_several_things(self):
        self.parted(("aa", ""), 2, TAKE, TAKE + MOVE)
        self.parted(("aa", ""), 2, TAKE * 2, TAKE * 3)
        self.parted(("a", ""), 2, TAKE, TAKE * 3)
        self.parted(("", "ab", ""), 3, (("a", 1, 0), ("b", 1, 2)), (("a", 1, 0), ("b", 1, 2), ("~", 0, 2)))

    def test_the_first_letter_that_neither_names(self):
        self.parted(("ab", ""), 2, (("b", 0, 1),), (("b", 0, 1), ("*", 0, 1)))
        self.parted(("abc", ""), 2, (("b", 0, 1), ("c", 0, 1)), (("b", 0, 1), ("c", 0, 1), ("*", 0, 1)))
        self.parted(("aab", ""), 2, (("b", 0, 1), ("a", 0, 1)), (("b", 0, 1), ("a", 0, 1), ("*", 0, 1)))
        self.parted(("a", ""), 2, MOVE, ())

    def test_the_least_world_of_all_small_ones(self):
        for size, kinds, many, most in ((2, "ab", 45, 4), (3, "ac", 30, 4), (2, "bz", 30, 4)):
            letters = "".join(sorted(set(kinds + "abc")))
            worlds = sorted(worlds_of(size, letters, most), key=lambda world: (sum(map(len, world)), world))
            for first, second in itertools.combinations(some_deeds(size, kinds, many), 2):
                named = named_in(first, second)
                named.add(min(set("abcdef") - named))
                least = next((world for world in worlds if set("".join(world)) <= named
                              and done(world, first) != done(world, second)), None)
                pair = DeedPair(size, first, second)
                self.assertEqual((bool(pair), pair.world), (least is None, least), (first, second))

    def test_six_kinds_and_six_places(self):
        first = (("a", 0, 1), ("b", 2, 3), ("c", 4, 5))
        self.parted(("a", "", "b", "", "c", ""), 6, first, (("d", 0, 1), ("e", 2, 3), ("f", 4, 5)))
        self.parted(("a", "", "b", "", "c", ""), 6, first, (("a", 0, 1), ("b", 2, 3), ("c", 4, 3)))
        away = (("x", 5, 0), ("y", 5, 0))
        self.parted(("", "", "", "", "", "xyz"), 6, away + (("z", 5, 0),), away + (("z", 5, 1),))


class TestArguments(Case):

    def test_bad_sizes(self):
        for size in NO_INTEGERS + (-1, 0, 1, 7, 10 ** 39):
            self.refused(BadSize(size), DeedPair, size, None, None)
            self.refused(BadSize(size), short_deed, size, None)

    def test_bad_deeds(self):
        steps = (("a", 0, 2), ("a", 0, 0), ("A", 0, 1), ("ab", 0, 1), (None, 0, 1), ("a", False, 1), ("a", 0, True), ("a", 0),
                 (), None)
        deeds = [(step,) for step in steps] + [[["a", 0, 1], step] for step in steps]
        for deed in deeds + [TAKE * 4] + list(NO_TUPLES):
            self.refused(BadDeed(deed), DeedPair, 2, deed, None)
            self.refused(BadDeed(deed), DeedPair, 2, TAKE, deed)
            self.refused(BadDeed(deed), short_deed, 2, deed)


class TestShortDeed(Case):

    def short(self, size, deed, short):
        self.assertEqual(short_deed(size, deed), short)
        self.assertEqual(short_deed(size, as_lists(deed)), short)
        self.assert_plain(short_deed(size, as_lists(deed)))

    def test_nothing_shorter(self):
        for deed in ((), TAKE, SWAP, MOVE, NEVER, (("b", 1, 0), ("a", 0, 1)), (("a", 0, 1), ("a", 1, 0)), TAKE * 3,
                     (("c", 0, 2), ("b", 0, 2), ("a", 0, 2)), (("~", 0, 1), ("~", 1, 2))):
            self.short(3, deed, deed)

    def test_shorter_ones(self):
        self.short(2, SWAP * 2, ())
        self.short(2, MOVE * 3, MOVE)
        self.short(2, SWAP * 3, SWAP)
        self.short(3, (("a", 0, 1), ("a", 1, 2)), (("a", 0, 2),))
        self.short(3, (("z", 1, 0), ("z", 0, 2), ("b", 2, 0)), (("b", 2, 0), ("z", 1, 2)))
        self.short(3, (("~", 0, 1), ("*", 0, 1)), (("*", 0, 1),))

    def test_the_first_of_those_with_the_fewest_steps(self):
        self.short(3, (("~", 1, 2), ("~", 1, 2), ("~", 1, 0)), (("~", 0, 1),))
        self.short(3, (("b", 0, 1), ("a", 0, 2), ("a", 2, 1)), (("a", 0, 1), ("b", 0, 1)))

    def test_what_can_never_be_done(self):
        self.short(2, (("*", 1, 0), ("z", 1, 0)), (("*", 1, 0), ("z", 1, 0)))
        self.short(2, (("*", 1, 0), ("z", 1, 0), ("b", 0, 1)), (("*", 0, 1), ("a", 0, 1)))
        self.short(6, (("z", 4, 5), ("*", 3, 5), ("z", 3, 0)), (("*", 0, 1), ("a", 0, 1)))

    def test_all_deeds_of_the_size_2(self):
        steps = steps_of(2, "ab")
        first = {}
        for many in range(3):
            for deed in itertools.product(steps, repeat=many):
                first.setdefault(sense(2, deed), deed)
        for many in range(4):
            for deed in itertools.product(steps, repeat=many):
                short = first.get(sense(2, deed), deed)
                self.assertEqual(short_deed(2, deed), short if len(short) < many else deed)

    def test_some_deeds_of_the_size_3(self):
        steps = steps_of(3, "abc")
        first = {}
        for many in range(3):
            for deed in itertools.product(steps, repeat=many):
                first.setdefault(sense(3, deed), deed)
        for deed in some_deeds(3, "abc", 200):
            short = first.get(sense(3, deed), deed)
            self.assertEqual(short_deed(3, deed), short if len(short) < len(deed) else deed)
