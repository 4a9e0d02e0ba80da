import itertools

from shownempty.errors import BadPattern, BadSize, BadWord
from shownempty.worlds import all_worlds, fits, is_pattern, is_word, is_world
from tests.helpers import NO_INTEGERS, NO_STRINGS, NO_TUPLES, Case


class TestWords(Case):

    def test_words(self):
        for word in ("", "a", "z", "aab", "abcdefgh", "aaaaaaaa", "az"):
            self.assertIs(is_word(word), True, word)

    def test_a_word_by_itself_can_have_more_letters(self):
        self.assertIs(is_word("a" * 9), True)
        self.assertIs(is_word("a" * 1000 + "b" * 1000), True)

    def test_no_words(self):
        for thing in ("ba", "aba", "A", "a b", "ab ", "1", "-", "*", "`", "{", "a?", "\u00e9"):
            self.assertIs(is_word(thing), False, thing)

    def test_things_of_other_kinds(self):
        for thing in NO_STRINGS:
            self.assertIs(is_word(thing), False)


class TestIsWorld(Case):

    def test_each_size(self):
        for size in range(2, 7):
            self.assertIs(is_world(("",) * size, size), True)
            self.assertIs(is_world(("",) * (size - 1), size), False)
            self.assertIs(is_world(("",) * (size + 1), size), False)

    def test_other_sizes(self):
        for size in (-1, 0, 1, 7):
            self.assertIs(is_world(("",) * size, size), False)
        for size in NO_INTEGERS:
            self.assertIs(is_world(("a",), size), False)

    def test_eight_and_nine_letters(self):
        self.assertIs(is_world(("abcdefgh", ""), 2), True)
        self.assertIs(is_world(("aaaa", "", "aaaa"), 3), True)
        self.assertIs(is_world(("aaaaaaaaa", ""), 2), False)
        self.assertIs(is_world(("aaaa", "a", "aaaa"), 3), False)

    def test_lists(self):
        self.assertIs(is_world(["a", ""], 2), True)

    def test_wrong_words(self):
        for word in NO_STRINGS + ("ba", "A", "?"):
            self.assertIs(is_world(("", word), 2), False)
            self.assertIs(is_world([word, ""], 2), False)

    def test_things_of_other_kinds(self):
        for thing in NO_TUPLES:
            for size in (2, 3):
                self.assertIs(is_world(thing, size), False)


class TestPatterns(Case):

    def test_patterns(self):
        for pattern in ((), (None,), ("",), ("ab", None, ""), (None,) * 6, ("a", "a"), ("aaaa", None, "aaaa")):
            self.assertIs(is_pattern(pattern), True, pattern)
            self.assertIs(is_pattern(list(pattern)), True, pattern)

    def test_six_and_seven_items(self):
        self.assertIs(is_pattern(("",) * 6), True)
        self.assertIs(is_pattern(("",) * 7), False)

    def test_eight_and_nine_letters(self):
        self.assertIs(is_pattern(("aaaa", "bbbb")), True)
        self.assertIs(is_pattern(("aaaa", "bbbbb")), False)
        self.assertIs(is_pattern(("aaaaaaaaa",)), False)

    def test_no_patterns(self):
        for item in NO_STRINGS + ("ba", "?", "-"):
            if item is not None:
                self.assertIs(is_pattern((item,)), False)
        for thing in NO_TUPLES:
            self.assertIs(is_pattern(thing), False)


class TestFits(Case):

    def test_fits(self):
        self.assertIs(fits((), ()), True)
        self.assertIs(fits(("a",), ("a",)), True)
        self.assertIs(fits(("a", "b"), (None, "b")), True)
        self.assertIs(fits(("a", ""), (None, "")), True)
        self.assertIs(fits(("aab", "b"), (None, None)), True)

    def test_fits_not(self):
        self.assertIs(fits(("a",), ("",)), False)
        self.assertIs(fits(("",), ("a",)), False)
        self.assertIs(fits(("a",), ("aa",)), False)
        self.assertIs(fits(("a", "b"), ("b", "a")), False)
        self.assertIs(fits(("a", "b"), ("a", "a")), False)

    def test_unlike_numbers_of_items(self):
        self.assertIs(fits((), (None,)), False)
        self.assertIs(fits(("a",), ()), False)
        self.assertIs(fits(("a", "b"), (None,)), False)
        self.assertIs(fits(("a",) * 7, (None,) * 6), False)

    def test_a_string_is_no_tuple(self):
        self.assertIs(fits("ab", ("a", "b")), False)

    def test_lists(self):
        self.assertIs(fits(["a", "b"], (None, "b")), True)
        self.assertIs(fits(("a", "b"), [None, "b"]), True)
        self.assertIs(fits(["a", "b"], ["b", None]), False)

    def test_bad_patterns(self):
        for pattern in NO_TUPLES + ((None,) * 7, ["ba"], ("aaaaaaaaa",), [0], (True,)):
            self.refused(BadPattern(pattern), fits, ("a",), pattern)


class TestAllWorlds(Case):

    def test_no_things(self):
        self.assertEqual(list(all_worlds(2, "")), [("", "")])
        self.assertEqual(list(all_worlds(6, "")), [("",) * 6])

    def test_a_few(self):
        self.assertEqual(list(all_worlds(2, "ab")), [("", "ab"), ("a", "b"), ("ab", ""), ("b", "a")])
        self.assertEqual(list(all_worlds(2, "aa")), [("", "aa"), ("a", "a"), ("aa", "")])

    def test_against_all_ways_to_lay_things(self):
        for size, word in ((2, "abbc"), (3, "aab"), (3, "aabbb"), (4, "abz"), (5, "aaa"), (6, "ab")):
            worlds = set()
            for places in itertools.product(range(size), repeat=len(word)):
                laid = [[letter for letter, at in zip(word, places) if at == place] for place in range(size)]
                worlds.add(tuple(["".join(sorted(letters)) for letters in laid]))
            self.assertEqual(list(all_worlds(size, word)), sorted(worlds))

    def test_all_are_worlds_with_eight_letters(self):
        worlds = list(all_worlds(3, "aabbccdd"))
        self.assertEqual(len(worlds), 6 ** 4)
        self.assertEqual(worlds, sorted(set(worlds)))
        for world in worlds:
            self.assertIs(is_world(world, 3), True)
            self.assertEqual(sorted("".join(world)), list("aabbccdd"))

    def test_the_first_of_many_come_at_once(self):
        self.assertEqual(next(iter(all_worlds(6, "abcdefgh"))), ("",) * 5 + ("abcdefgh",))

    def test_bad_sizes(self):
        for size in NO_INTEGERS + (0, 1, 7, -2, 10 ** 39):
            self.refused(BadSize(size), lambda: list(all_worlds(size, "ba")))

    def test_bad_words(self):
        for word in NO_STRINGS + ("ba", "a" * 9, "abcdefghi", "A"):
            self.refused(BadWord(word), lambda: list(all_worlds(2, word)))

    def test_nothing_is_done_before_it_is_iterated(self):
        worlds = all_worlds(7, "ba")
        self.refused(BadSize(7), next, worlds)
