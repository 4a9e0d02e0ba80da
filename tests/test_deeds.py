from shownempty.deeds import done, is_deed
from shownempty.errors import BadDeed, BadWorld
from tests.helpers import NO_INTEGERS, NO_STRINGS, NO_TUPLES, Case, as_lists


class TestIsDeed(Case):

    def test_deeds(self):
        for deed in ((), (("a", 0, 1),), (("*", 1, 0),), (("~", 0, 1),), (("z", 0, 1), ("z", 1, 0), ("~", 1, 0))):
            self.assertIs(is_deed(deed, 2), True, deed)
            self.assertIs(is_deed(as_lists(deed), 2), True, deed)
            self.assertIs(is_deed(deed, 6), True, deed)

    def test_three_and_four_steps(self):
        self.assertIs(is_deed((("a", 0, 1),) * 3, 2), True)
        self.assertIs(is_deed((("a", 0, 1),) * 4, 2), False)

    def test_places_of_each_size(self):
        for size in range(2, 7):
            self.assertIs(is_deed((("a", 0, size - 1),), size), True)
            self.assertIs(is_deed((("a", 0, size),), size), False)
            self.assertIs(is_deed((("a", size, 0),), size), False)
            self.assertIs(is_deed((("a", -1, 0),), size), False)
            self.assertIs(is_deed((("a", 0, -1),), size), False)

    def test_one_place(self):
        for what in "a*~":
            self.assertIs(is_deed(((what, 1, 1),), 2), False)

    def test_what_cannot_go(self):
        for what in NO_STRINGS + ("", "ab", "A", "-", "?", "**", "*~", "1"):
            self.assertIs(is_deed(((what, 0, 1),), 2), False)

    def test_no_places(self):
        for place in NO_INTEGERS:
            self.assertIs(is_deed((("a", place, 2),), 3), False)
            self.assertIs(is_deed((("a", 2, place),), 3), False)

    def test_no_steps(self):
        for step in NO_TUPLES + ((), ("a", 0), ("a", 0, 1, 1), "a01"):
            self.assertIs(is_deed((step,), 2), False)
            self.assertIs(is_deed((("a", 0, 1), step), 2), False)

    def test_no_deeds(self):
        for thing in NO_TUPLES + ("a01", ("a", 0, 1)):
            self.assertIs(is_deed(thing, 2), False)

    def test_other_sizes(self):
        for size in NO_INTEGERS + (1, 7):
            self.assertIs(is_deed((), size), False)


class TestDone(Case):

    def test_nothing(self):
        self.assertEqual(done(("ab", ""), ()), ("ab", ""))

    def test_one_thing(self):
        self.assertEqual(done(("aab", "b"), (("a", 0, 1),)), ("ab", "ab"))
        self.assertEqual(done(("b", "ac"), (("b", 0, 1),)), ("", "abc"))
        self.assertIsNone(done(("aab", "b"), (("a", 1, 0),)))
        self.assertIsNone(done(("", ""), (("a", 0, 1),)))

    def test_all_things(self):
        self.assertEqual(done(("acc", "b"), (("*", 0, 1),)), ("", "abcc"))
        self.assertEqual(done(("acc", ""), (("*", 1, 0),)), ("acc", ""))
        self.assertEqual(done(("", ""), (("*", 1, 0),)), ("", ""))

    def test_exchange(self):
        self.assertEqual(done(("a", "b", "c"), (("~", 0, 2),)), ("c", "b", "a"))
        self.assertEqual(done(("a", "b", "c"), (("~", 2, 0),)), ("c", "b", "a"))
        self.assertEqual(done(("", ""), (("~", 0, 1),)), ("", ""))

    def test_steps_one_after_the_other(self):
        self.assertEqual(done(("a", "", ""), (("a", 0, 1), ("a", 1, 2))), ("", "", "a"))
        self.assertEqual(done(("a", "b", ""), (("~", 0, 1), ("*", 1, 2), ("b", 0, 2))), ("", "", "ab"))

    def test_as_soon_as_a_step_cannot_be_done(self):
        self.assertIsNone(done(("a", "", ""), (("a", 1, 2), ("a", 0, 1))))
        self.assertIsNone(done(("a", "", ""), (("a", 0, 1), ("a", 0, 1))))
        self.assertIsNone(done(("a", "", ""), (("*", 0, 1), ("~", 0, 2), ("b", 1, 0))))

    def test_nothing_is_made_or_lost(self):
        world = ("aab", "cz", "ab", "", "", "")
        for deed in ((("*", 0, 5), ("~", 5, 1), ("c", 5, 0)), (("a", 0, 2), ("a", 0, 2), ("z", 1, 0))):
            behind = done(world, deed)
            self.assertEqual(sorted("".join(behind)), sorted("".join(world)))
            self.assertEqual([list(word) for word in behind], [sorted(word) for word in behind])

    def test_lists(self):
        world = ["ab", ""]
        deed = [["a", 0, 1]]
        behind = done(world, deed)
        self.assertEqual(behind, ("b", "a"))
        self.assert_plain(behind)
        self.assert_plain(done(world, []))
        self.assertEqual((world, deed), (["ab", ""], [["a", 0, 1]]))

    def test_the_least_and_the_greatest_worlds(self):
        self.assertEqual(done(("a", ""), (("a", 0, 1),)), ("", "a"))
        self.assertEqual(done(("", "", "", "", "", "abcdefgh"), (("*", 5, 0),)), ("abcdefgh", "", "", "", "", ""))

    def test_bad_worlds(self):
        for world in NO_TUPLES + ((), ("a",), ("",) * 7, ["ba", ""], ("aaaaa", "aaaa"), (None, ""), [True, ""]):
            self.refused(BadWorld(world), done, world, None)

    def test_bad_deeds(self):
        for deed in NO_TUPLES + ((("a", 0, 2),), [["a", 0, 0]], (("a", False, True),), (("a", 0, 1),) * 4):
            self.refused(BadDeed(deed), done, ("a", ""), deed)
