from shownempty.craft import Craft
from shownempty.craftlines import read_craft, write_craft
from shownempty.errors import BadGesture, BadLine, BadSleight, BadText, TooMany, Twice
from tests.helpers import CRAFT_LINES, NO_STRINGS, Case, coin_craft

HEAD = ("craft 3", "gesture pass a01 -")


class TestWritten(Case):

    def test_the_example_of_the_document(self):
        craft = Craft(
            3,
            (("pass", (("a", 0, 1),), ()), ("open", (), (1,)), ("reach", (), (0,))),
            (("keep", "pass", (), 2, (0,)), ("load", "open", (("a", 2, 1),), 5, (1, 3))),
        )
        self.assertEqual(write_craft(craft), CRAFT_LINES)
        self.assertEqual(read_craft(CRAFT_LINES), craft)

    def test_without_sleights(self):
        craft = Craft(2, (("a", (), ()),))
        self.assertEqual(write_craft(craft), ("craft 2", "gesture a - -"))
        self.assertEqual(read_craft(("craft 2", "gesture a - -")), craft)

    def test_the_greatest(self):
        gestures = tuple([(8 * letter, (("*", 5, 0), ("~", 4, 3), ("z", 1, 2)), tuple(range(6))) for letter in "abcdefgh"])
        sleights = tuple([(8 * letter, 8 * "h", (), 9, tuple(range(7))) for letter in "stuvwxyz"])
        craft = Craft(6, gestures, sleights)
        lines = write_craft(craft)
        self.assertEqual(lines[1], "gesture aaaaaaaa *50~43z12 012345")
        self.assertEqual(lines[16], "sleight zzzzzzzz hhhhhhhh - 9 0123456")
        self.assertEqual(read_craft(lines), craft)
        self.assert_plain(lines)

    def test_lists(self):
        self.assertEqual(read_craft(list(CRAFT_LINES)), coin_craft())
        self.assert_plain(read_craft(list(CRAFT_LINES)).gestures)


class TestBadLines(Case):

    def test_no_lines(self):
        self.refused(BadLine(0, 0), read_craft, ())
        self.refused(BadLine(0, 0), read_craft, [])

    def test_lines_that_are_no_strings(self):
        for line in NO_STRINGS:
            self.refused(BadLine(0, 0), read_craft, (line,))
            self.refused(BadLine(2, 0), read_craft, HEAD + (line, "x"))

    def test_first_words(self):
        for word in ("", "Craft", "craf", "gesture", "sleight", "-", "do"):
            self.refused(BadLine(0, 0), read_craft, (word + " 3",))
        for word in ("", "craft", "gestures", "end", "-"):
            self.refused(BadLine(2, 0), read_craft, HEAD + (word + " pass a01 -",))

    def test_no_gesture_behind_a_sleight(self):
        self.refused(BadLine(6, 0), read_craft, CRAFT_LINES + ("gesture more - -",))
        self.refused(BadLine(6, 0), read_craft, CRAFT_LINES + ("craft 3",))

    def test_too_early_an_end(self):
        for k, line in enumerate(CRAFT_LINES):
            words = line.split(" ")
            for many in range(1, len(words)):
                lines = CRAFT_LINES[:k] + (" ".join(words[:many]),) + CRAFT_LINES[k + 1:]
                self.refused(BadLine(k, many), read_craft, lines)

    def test_a_word_too_much(self):
        for k, line in enumerate(CRAFT_LINES):
            for more in ("", "-", "x"):
                lines = CRAFT_LINES[:k] + (line + " " + more,) + CRAFT_LINES[k + 1:]
                self.refused(BadLine(k, len(line.split(" "))), read_craft, lines)

    def test_blanks(self):
        for k, line in enumerate(CRAFT_LINES):
            words = line.split(" ")
            for at in range(len(words)):
                bad = " ".join(words[:at] + [""] + words[at:])
                self.refused(BadLine(k, at), read_craft, CRAFT_LINES[:k] + (bad,) + CRAFT_LINES[k + 1:])
            self.refused(BadLine(k, 0), read_craft, CRAFT_LINES[:k] + ("",) + CRAFT_LINES[k + 1:])

    def wrong(self, line, at, words):
        """None of the words can stand there in the line."""
        for word in words:
            told = line.split(" ")
            told[at] = word
            error = self.refused(BadLine(1, at), read_craft, ("craft 6", " ".join(told)))
            self.assertIsNone(error.__cause__)

    def test_sizes(self):
        for size in range(2, 7):
            self.assertEqual(read_craft((f"craft {size}", "gesture a - -")).size, size)
        for word in ("0", "1", "7", "03", "+3", "-3", "3.0", "x", "33", "", "\u0663", "9" * 1900):
            self.refused(BadLine(0, 1), read_craft, ("craft " + word, "x"))

    def test_names(self):
        bad = ("", "abcdefghi", "A", "a1", "-", "a_b", "?")
        self.wrong("gesture pass a01 -", 1, bad)
        self.wrong("sleight keep pass - 2 0", 1, bad)
        self.wrong("sleight keep pass - 2 0", 2, bad)

    def test_lots(self):
        bad = ("", "10", "00", "0,1", "a", "--", "-0", "0-", "011", "\u0661")
        self.wrong("gesture pass a01 -", 3, bad + ("6", "06", "0123456"))
        self.wrong("sleight keep pass - 2 0", 5, bad + ("7", "07", "01234567"))

    def test_prices(self):
        for price in range(1, 10):
            lines = ("craft 2", "gesture a - -", f"sleight b a - {price} -")
            self.assertEqual(read_craft(lines).price_of("a", "b"), price)
        self.wrong("sleight keep pass - 2 0", 4, ("0", "10", "02", "+2", "-2", "x", "-", ""))

    def test_deeds_and_the_cause(self):
        for line, at in (("gesture pass a01 -", 2), ("sleight keep pass - 2 0", 3)):
            for text, wrong in (("", 0), ("a", 1), ("a0", 2), ("a00", 2), ("--", 1), ("a06", 2), ("a01b12c23d", 9)):
                words = line.split(" ")
                words[at] = text
                error = self.refused(BadLine(1, at), read_craft, ("craft 6", " ".join(words)))
                self.assertIs(type(error.__cause__), BadText)
                self.assertEqual(error.__cause__.at, wrong)

    def test_the_first_bad_word_is_told(self):
        self.refused(BadLine(1, 2), read_craft, ("craft 3", "gesture pass b 9 x", None))
        self.refused(BadLine(0, 2), read_craft, ("craft 3 3", None))
        self.refused(BadLine(1, 1), read_craft, ("craft 3", "gesture A", "x"))


class TestJudged(Case):
    """What the lines let is judged by the craft, behind all lines."""

    def test_no_gestures(self):
        self.refused(BadGesture(-1), read_craft, ("craft 3",))
        self.refused(BadGesture(-1), read_craft, ("craft 3", "sleight keep pass - 2 0"))

    def test_places_above_the_size(self):
        self.refused(BadGesture(0), read_craft, ("craft 2", "gesture a a02 -"))
        self.refused(BadGesture(0), read_craft, ("craft 2", "gesture a - 2"))
        self.refused(BadSleight(0), read_craft, ("craft 2", "gesture a - -", "sleight b a - 1 3"))
        self.assertEqual(read_craft(("craft 2", "gesture a - -", "sleight b a - 1 2")).spots_of("a", "b"), (2,))

    def test_unknown_gestures(self):
        self.refused(BadSleight(0), read_craft, HEAD + ("sleight keep open - 2 0",))

    def test_too_many_and_twice(self):
        gestures = tuple([f"gesture {letter} - -" for letter in "abcdefghi"])
        self.assertEqual(len(read_craft(("craft 2",) + gestures[:8])), 8)
        self.refused(TooMany("gesture"), read_craft, ("craft 2",) + gestures)
        self.refused(Twice("a"), read_craft, ("craft 2",) + gestures[:2] + gestures[:1])

    def test_a_bad_line_goes_ahead(self):
        self.refused(BadLine(2, 0), read_craft, ("craft 2", "gesture a a05 -", "x"))
