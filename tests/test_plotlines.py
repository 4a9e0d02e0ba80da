from shownempty.craft import Craft
from shownempty.errors import BadCue, BadLine, BadText, TooMany
from shownempty.plotlines import read_plot, write_plot
from shownempty.plots import Plot
from tests.helpers import NO_STRINGS, Case, coin_craft

LINES = ("show pass . 1", "ask 2 0", "show open a 3 - 4 ? 4", "end ?,?,?", "end aab,-,?")
CUES = (
    ("show", "pass", (((), 1),)),
    ("ask", 2, 0),
    ("show", "open", ((("a",), 3), (("",), 4), ((None,), 4))),
    ("end", (None, None, None)),
    ("end", ("aab", "", None)),
)
PAIRS = " a 3 b 3 c 3 d 3"


class TestWritten(Case):

    def test_each_kind_of_cue(self):
        self.assertEqual(write_plot(Plot(coin_craft(), CUES)), LINES)
        self.assertEqual(read_plot(coin_craft(), LINES), Plot(coin_craft(), CUES))
        self.assert_plain(write_plot(Plot(coin_craft(), CUES)))

    def test_the_craft_is_the_one_that_is_passed(self):
        craft = coin_craft()
        self.assertIs(read_plot(craft, LINES).craft, craft)

    def test_one_to_four_outs(self):
        for many in range(1, 5):
            outs = tuple([((letter,), 1) for letter in "abcd"[:many]])
            plot = Plot(coin_craft(), (("show", "open", outs), ("end", (None,) * 3)))
            lines = ("show open" + "".join([f" {letter} 1" for letter in "abcd"[:many]]), "end ?,?,?")
            self.assertEqual(write_plot(plot), lines)
            self.assertEqual(read_plot(coin_craft(), lines), plot)

    def test_the_greatest(self):
        craft = Craft(6, (("abcdefgh", (), (0, 1, 2, 3, 4, 5)),))
        lines = ["show abcdefgh a,b,c,d,e,fgh 59 ?,?,?,?,?,? 1 -,-,-,-,-,- 2 ?,-,zzzzzzzz,-,?,- 3"]
        lines.extend(["end a,b,c,d,e,fgh"] * 58 + ["ask 59 0"])
        plot = read_plot(craft, lines)
        self.assertEqual(plot[0][2][0], (("a", "b", "c", "d", "e", "fgh"), 59))
        self.assertEqual(plot[0][2][3], ((None, "", "zzzzzzzz", "", None, ""), 3))
        self.assertEqual((plot[58], plot[59]), (("end", ("a", "b", "c", "d", "e", "fgh")), ("ask", 59, 0)))
        self.assertEqual(write_plot(plot), tuple(lines))

    def test_lists(self):
        self.assertEqual(read_plot(coin_craft(), list(LINES)), Plot(coin_craft(), CUES))
        self.assert_plain(read_plot(coin_craft(), list(LINES)).cues)


class TestBadLines(Case):

    def bad(self, line, word, *lines):
        return self.refused(BadLine(line, word), read_plot, coin_craft(), lines)

    def uncaused(self, line, word, *lines):
        self.assertIsNone(self.bad(line, word, *lines).__cause__)

    def caused(self, line, word, at, *lines):
        cause = self.bad(line, word, *lines).__cause__
        self.assertIs(type(cause), BadText)
        self.assertEqual(cause.at, at)

    def test_lines_that_are_no_strings(self):
        for line in NO_STRINGS:
            self.uncaused(0, 0, line)
            self.uncaused(1, 0, "end ?,?,?", line, "x")

    def test_first_words(self):
        for word in ("", "Show", "do", "go", "glance", "either", "stop", "craft", "ends", "-", "0"):
            self.uncaused(0, 0, word)
            self.uncaused(1, 0, "end ?,?,?", word + " 0 0")

    def test_too_early_an_end(self):
        self.uncaused(1, 1, "ask 0 0", "ask")
        self.uncaused(1, 2, "ask 0 0", "ask 0")
        self.uncaused(0, 1, "end")
        for many in range(1, 10):
            line = " ".join(("show open" + PAIRS).split(" ")[:many])
            if many < 4 or many % 2 == 1:
                self.uncaused(0, many, line, "x")
            else:
                self.uncaused(1, 0, line, "x")

    def test_a_word_too_much(self):
        for more in ("", "-", "0", "x", "a"):
            self.uncaused(0, 3, "ask 0 0 " + more)
            self.uncaused(0, 2, "end ?,?,? " + more)
            self.uncaused(0, 10, "show open" + PAIRS + " " + more)
            self.uncaused(0, 10, "show open" + PAIRS + " " + more + " 3")

    def test_blanks(self):
        self.caused(0, 4, 0, "show open a 1 ")
        self.caused(0, 2, 0, "show open  a 1")
        self.uncaused(0, 3, "show open a  1")
        self.uncaused(0, 1, "show  open a 1")
        self.uncaused(0, 0, " show open a 1")
        self.caused(0, 4, 0, "show open a 1  a 1")
        self.uncaused(0, 5, "show open a 1 a ")
        self.caused(0, 1, 0, "end ")
        self.uncaused(0, 2, "end ?,?,? ")
        self.uncaused(0, 1, "ask  0 0")

    def test_gestures(self):
        for word in ("", "abcdefghi", "A", "a1", "-", "?", "."):
            self.uncaused(0, 1, f"show {word} a 1")

    def test_targets(self):
        for word in ("", "60", "100", "00", "01", "-1", "+1", "1.", "x", "-", "?", "\u0661", "9" * 1900):
            self.uncaused(0, 3, f"show open a {word} b 1")
            self.uncaused(0, 5, f"show open a 1 b {word}")
            self.uncaused(0, 1, f"ask {word} 0")
            self.uncaused(0, 2, f"ask 0 {word}")

    def test_sights_and_wishes_and_the_cause(self):
        bad = (("", 0), ("ba", 1), ("A", 0), ("a,", 2), (",a", 0), ("..", 1), ("a.", 1), ("a-", 1), ("a,,b", 2),
               ("aaaaaaaaa", 8), ("a,b,c,d,e,f,g", 11), ("0", 0), ("?a", 1), ("-,-?", 3))
        for text, at in bad:
            self.caused(0, 1, at, "end " + text, None)
            self.caused(1, 2, at, "ask 0 0", f"show open {text} 1")
            self.caused(0, 4, at, f"show open a 1 {text} 1")
            self.caused(0, 8, at, f"show open a 1 a 1 a 1 {text} 1")
            self.caused(0, 4, at, f"show open a 1 {text}")

    def test_the_first_bad_word_is_told(self):
        self.uncaused(0, 1, "show A ba x ba", None)
        self.caused(0, 2, 1, "show open ba x ba", None)
        self.uncaused(0, 3, "show open a x ba", None)


class TestJudged(Case):
    """What the lines let is judged by the plot, behind all lines."""

    def test_no_lines(self):
        self.refused(BadCue(-1), read_plot, coin_craft(), ())
        self.refused(BadCue(-1), read_plot, coin_craft(), [])

    def test_what_is_not_there(self):
        for line in ("show opens a 1", "show open . 1", "show open a,b 1", "show pass - 1", "show open a 2",
                     "show open a 0", "show open a 1 a 59", "ask 0 2", "ask 59 0", "end ?,?", "end .", "end ?,?,?,?"):
            self.refused(BadCue(0), read_plot, coin_craft(), (line, "end ?,?,?"))
        self.refused(BadCue(1), read_plot, coin_craft(), ("end ?,?,?", "show open a 2"))

    def test_60_and_61(self):
        self.assertEqual(len(read_plot(coin_craft(), ("end ?,?,?",) * 60)), 60)
        self.refused(TooMany("cue"), read_plot, coin_craft(), ("end ?,?,?",) * 61)
        self.refused(TooMany("cue"), read_plot, coin_craft(), ("end ?,?,?",) * 300)

    def test_a_bad_line_goes_ahead(self):
        self.refused(BadLine(1, 0), read_plot, coin_craft(), ("show opens a 1", "x"))
