from shownempty.actlines import read_act, write_act
from shownempty.acts import Act
from shownempty.craft import Craft
from shownempty.errors import BadCue, BadLine, TooMany
from tests.helpers import ACT_LINES, NO_STRINGS, Case, coin_act, coin_craft

LINES = ("glance 2 a 3", "do open -", "go 4", "do open load", "ask 5 0", "end")
CUES = (("glance", 2, "a", 3), ("do", "open", ""), ("go", 4), ("do", "open", "load"), ("ask", 5, 0), ("end",))


class TestWritten(Case):

    def test_the_example_of_the_document(self):
        cues = (("do", "pass", "keep"), ("ask", 2, 0), ("do", "open", ""), ("end",))
        self.assertEqual(read_act(coin_craft(), ACT_LINES), Act(coin_craft(), cues))
        self.assertEqual(write_act(coin_act()), ACT_LINES)

    def test_each_kind_of_cue(self):
        self.assertEqual(write_act(Act(coin_craft(), CUES)), LINES)
        self.assertEqual(read_act(coin_craft(), LINES), Act(coin_craft(), CUES))
        self.assert_plain(write_act(Act(coin_craft(), CUES)))

    def test_the_craft_is_the_one_that_is_passed(self):
        craft = coin_craft()
        self.assertIs(read_act(craft, LINES).craft, craft)

    def test_the_greatest(self):
        act = Act(coin_craft(), (("go", 59),) + (("end",),) * 58 + (("ask", 59, 0),))
        lines = ("go 59",) + ("end",) * 58 + ("ask 59 0",)
        self.assertEqual(write_act(act), lines)
        self.assertEqual(read_act(coin_craft(), lines), act)
        craft = Craft(6, (("a", (), ()),))
        lines = ("glance 5 z 59", "do a -") + ("end",) * 57 + ("ask 0 59",)
        act = read_act(craft, lines)
        self.assertEqual((act[0], act[59]), (("glance", 5, "z", 59), ("ask", 0, 59)))
        self.assertEqual(write_act(act), lines)

    def test_lists(self):
        self.assertEqual(read_act(coin_craft(), list(LINES)), Act(coin_craft(), CUES))
        self.assert_plain(read_act(coin_craft(), list(LINES)).cues)


class TestBadLines(Case):

    def bad(self, line, word, *lines):
        error = self.refused(BadLine(line, word), read_act, coin_craft(), lines)
        self.assertIsNone(error.__cause__)

    def test_lines_that_are_no_strings(self):
        for line in NO_STRINGS:
            self.bad(0, 0, line)
            self.bad(1, 0, "end", line, "x")

    def test_first_words(self):
        for word in ("", "Do", "show", "either", "stop", "gesture", "ends", "-", "0"):
            self.bad(0, 0, word)
            self.bad(1, 0, "end", word + " 0 0")

    def test_too_early_an_end(self):
        for k, line in enumerate(LINES):
            words = line.split(" ")
            for many in range(1, len(words)):
                self.bad(k, many, *LINES[:k], " ".join(words[:many]), *LINES[k + 1:])

    def test_a_word_too_much(self):
        for k, line in enumerate(LINES):
            for more in ("", "-", "0", "x"):
                self.bad(k, len(line.split(" ")), *LINES[:k], line + " " + more, *LINES[k + 1:])

    def test_blanks(self):
        for k, line in enumerate(LINES):
            words = line.split(" ")
            for at in range(len(words)):
                bad = " ".join(words[:at] + [""] + words[at:])
                self.bad(k, at, *LINES[:k], bad, *LINES[k + 1:])
            self.bad(k, 0, *LINES[:k], "", *LINES[k + 1:])

    def wrong(self, line, at, words):
        """None of the words can stand there in the line."""
        for word in words:
            told = line.split(" ")
            told[at] = word
            self.bad(0, at, " ".join(told), *("end",) * 59)

    def test_names(self):
        bad = ("", "abcdefghi", "A", "a1", "a-", "?")
        self.wrong("do open load", 1, bad + ("-",))
        self.wrong("do open load", 2, bad + ("--",))

    def test_numbers_of_cues(self):
        bad = ("", "60", "100", "00", "01", "-1", "+1", "1.", "x", "-", "\u0661", "9" * 1900)
        self.wrong("ask 0 0", 1, bad)
        self.wrong("ask 0 0", 2, bad)
        self.wrong("go 1", 1, bad)
        self.wrong("glance 0 a 1", 3, bad)

    def test_places(self):
        self.wrong("glance 0 a 1", 1, ("", "6", "00", "01", "-1", "x", "-", "10"))

    def test_kinds(self):
        self.wrong("glance 0 a 1", 2, ("", "ab", "A", "*", "~", "-", "0"))

    def test_the_first_bad_word_is_told(self):
        self.bad(0, 1, "ask 60 60 60", None)
        self.bad(0, 2, "do open A x", "x")


class TestJudged(Case):
    """What the lines let is judged by the act, behind all lines."""

    def test_no_lines(self):
        self.refused(BadCue(-1), read_act, coin_craft(), ())
        self.refused(BadCue(-1), read_act, coin_craft(), [])

    def test_what_is_not_there(self):
        for line in ("do opens -", "do open keep", "ask 0 2", "ask 59 0", "go 2", "go 0", "glance 3 a 1", "glance 0 a 0"):
            self.refused(BadCue(0), read_act, coin_craft(), (line, "end"))
        self.refused(BadCue(1), read_act, coin_craft(), ("end", "do open -"))

    def test_60_and_61(self):
        self.assertEqual(len(read_act(coin_craft(), ("end",) * 60)), 60)
        self.refused(TooMany("cue"), read_act, coin_craft(), ("end",) * 61)
        self.refused(TooMany("cue"), read_act, coin_craft(), ("end",) * 300)

    def test_a_bad_line_goes_ahead(self):
        self.refused(BadLine(1, 0), read_act, coin_craft(), ("do opens -", "x"))
