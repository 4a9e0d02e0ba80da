from shownempty.errors import BadLine, BadStatement, TooLong
from shownempty.scriptlines import read_script, write_script
from shownempty.scripts import Script
from tests.helpers import NO_STRINGS, Case, coin_craft
from tests.scripthelp import BACK, DO, KEEP, LOAD, OPEN, STOP, nested, some_bodies

EACH = (
    KEEP,
    ("either", (OPEN, ("again", (DO,))), (STOP,)),
    ("peek", 2, "a", (LOAD,), (("peek", 0, "b", (), (BACK,)),)),
    ("peek", 1, "z", (STOP,), ()),
)
LINES = (
    "do pass keep",
    "either", "do open -", "again", "do pass -", "end", "or", "stop", "end",
    "peek 2 a", "do open load", "else", "peek 0 b", "else", "do reach -", "end", "end",
    "peek 1 z", "stop", "end",
)
EMPTY = (
    (("either", (), ()), ("either", "or", "end")),
    (("either", (STOP,), ()), ("either", "stop", "or", "end")),
    (("either", (), (STOP,)), ("either", "or", "stop", "end")),
    (("again", ()), ("again", "end")),
    (("peek", 0, "a", (), ()), ("peek 0 a", "end")),
    (("peek", 0, "a", (STOP,), ()), ("peek 0 a", "stop", "end")),
    (("peek", 0, "a", (), (STOP,)), ("peek 0 a", "else", "stop", "end")),
)
WORDS = ("do pass -", "either", "or", "again", "peek 0 a", "else", "end", "stop")


class TestWritten(Case):

    def test_each_kind_of_statement(self):
        script = Script(coin_craft(), EACH)
        self.assertEqual(write_script(script), LINES)
        self.assertEqual(read_script(coin_craft(), LINES), script)
        self.assert_plain(write_script(script))

    def test_bodies_without_statements(self):
        self.assertEqual(write_script(Script(coin_craft(), ())), ())
        for lines in ((), []):
            self.assertEqual(read_script(coin_craft(), lines), Script(coin_craft(), ()))
        for statement, lines in EMPTY:
            self.assertEqual(write_script(Script(coin_craft(), (statement,))), lines)
            self.assertEqual(read_script(coin_craft(), lines).body, (statement,))
            self.assertEqual(read_script(coin_craft(), lines + lines).body, (statement, statement))

    def test_the_craft_is_the_one_that_is_passed(self):
        craft = coin_craft()
        self.assertIs(read_script(craft, LINES).craft, craft)

    def test_many_scripts_are_read_as_they_were_written(self):
        for body in some_bodies(300):
            if len(write_script_of(body)) <= 40:
                script = Script(coin_craft(), body)
                self.assertEqual(read_script(coin_craft(), write_script(script)), script)

    def test_lists(self):
        self.assertEqual(read_script(coin_craft(), list(LINES)).body, EACH)
        self.assert_plain(read_script(coin_craft(), list(LINES)).body)


def write_script_of(body):
    """The statements of a body, flat."""
    told = []
    for statement in body:
        told.append(statement)
        for part in statement[1:]:
            told.extend(write_script_of(part) if isinstance(part, tuple) else ())
    return told


class TestBadLines(Case):

    def bad(self, line, word, *lines):
        error = self.refused(BadLine(line, word), read_script, coin_craft(), lines)
        self.assertIsNone(error.__cause__)

    def test_lines_that_are_no_strings(self):
        for line in NO_STRINGS:
            self.bad(0, 0, line)
            self.bad(2, 0, "either", "or", line, "x")

    def test_first_words(self):
        for word in ("", "Do", "ask", "go", "glance", "show", "ends", "-", "0", "whole"):
            self.bad(0, 0, word)
            self.bad(1, 0, "stop", word + " 0 0")
            for line in ("either", "again", "peek 0 a"):
                self.bad(1, 0, line, word)

    def test_what_can_come_where(self):
        everywhere = ("do pass -", "either", "again", "peek 0 a", "stop")
        can_come = {
            (): (), ("stop",): (), ("again", "end"): (), ("either", "or", "end"): (), ("peek 0 a", "end"): (),
            ("either",): ("or",), ("either", "stop"): ("or",),
            ("either", "or"): ("end",), ("either", "or", "stop"): ("end",),
            ("again",): ("end",), ("again", "stop"): ("end",),
            ("peek 0 a",): ("else", "end"), ("peek 0 a", "stop"): ("else", "end"),
            ("peek 0 a", "else"): (), ("peek 0 a", "else", "stop"): ("end",),
            ("either", "again", "end"): ("or",), ("peek 0 a", "else", "either", "or", "end"): ("end",),
            ("again", "either", "peek 0 a", "end", "or"): ("end",), ("either", "or", "again"): ("end",),
            ("peek 0 a", "again"): ("end",), ("again", "peek 0 a", "else"): (), ("either", "peek 0 a"): ("else", "end"),
        }
        for ahead, words in can_come.items():
            for line in WORDS:
                if line in everywhere + words:
                    self.passes(len(ahead), ahead + (line,))
                else:
                    self.bad(len(ahead), 0, *ahead, line, "x")

    def passes(self, number, lines):
        """The line with this number can stand there: it is the next one that is refused."""
        self.refused(BadLine(number + 1, 0), read_script, coin_craft(), lines + ("x",))

    def test_an_else_directly_ahead_of_an_end(self):
        self.bad(2, 0, "peek 0 a", "else", "end")
        self.bad(3, 0, "peek 0 a", "stop", "else", "end")
        self.bad(4, 0, "again", "peek 0 a", "stop", "else", "end", "end")
        self.bad(2, 0, "peek 0 a", "else", "end x")

    def test_too_early_an_end_of_the_lines(self):
        for k in range(1, len(LINES)):
            try:
                read_script(coin_craft(), LINES[:k])
                self.assertIn(k, (1, 9, 17))
            except BadLine as error:
                self.assertEqual((error.line, error.word), (k, 0))
                self.assertNotIn(k, (1, 9, 17))
        for lines in (("either",), ("either", "or"), ("again",), ("peek 0 a",), ("peek 0 a", "else"), ("again",) * 300):
            self.bad(len(lines), 0, *lines)

    def test_too_early_an_end_of_a_line(self):
        self.bad(0, 1, "do")
        self.bad(0, 2, "do pass")
        self.bad(1, 1, "stop", "peek", "end")
        self.bad(1, 2, "stop", "peek 0", "end")

    def test_a_word_too_much(self):
        for k, line in enumerate(LINES):
            for more in ("", "-", "0", "x"):
                self.bad(k, len(line.split(" ")), *LINES[:k], line + " " + more, *LINES[k + 1:])

    def test_blanks(self):
        for k, line in enumerate(LINES):
            words = line.split(" ")
            for at in range(len(words)):
                bad = " ".join(words[:at] + [""] + words[at:])
                self.bad(k, at, *LINES[:k], bad, *LINES[k + 1:])
            self.bad(k, 0, *LINES[:k], "", *LINES[k + 1:])

    def test_words(self):
        for word in ("", "abcdefghi", "A", "a1", "-", "?"):
            self.bad(0, 1, f"do {word} -")
        for word in ("", "abcdefghi", "A", "a1", "--", "?"):
            self.bad(0, 2, f"do pass {word}")
        for word in ("", "6", "00", "01", "-1", "x", "-", "10", "\u0661"):
            self.bad(0, 1, f"peek {word} a", "end")
        for word in ("", "ab", "A", "*", "~", "-", "0"):
            self.bad(0, 2, f"peek 0 {word}", "end")

    def test_the_first_bad_word_is_told(self):
        self.bad(0, 1, "do A A A", None)
        self.bad(0, 0, "end x", None)
        self.bad(1, 1, "again", "end end", "stop x")


class TestJudged(Case):
    """What the lines let is judged by the script, behind all lines."""

    def test_what_is_not_there(self):
        for line in ("do opens -", "do open keep", "do keep -"):
            self.refused(BadStatement(1), read_script, coin_craft(), ("stop", line))
        self.refused(BadStatement(0), read_script, coin_craft(), ("peek 3 a", "end"))
        lines = ("either", "stop", "or", "again", "do opens -", "end", "end")
        self.refused(BadStatement(3), read_script, coin_craft(), lines)

    def test_a_bad_line_goes_ahead(self):
        self.refused(BadLine(1, 0), read_script, coin_craft(), ("do opens -", "x"))
        self.refused(BadLine(2, 0), read_script, coin_craft(), ("do opens -", "again"))

    def test_depth(self):
        lines = ("again",) * 5 + ("stop",) + ("end",) * 5
        self.assertEqual(read_script(coin_craft(), lines).body, nested(5, (STOP,)))
        self.refused(BadStatement(6), read_script, coin_craft(), ("again",) + lines + ("end",))
        self.refused(BadStatement(6), read_script, coin_craft(), ("again",) * 150 + ("end",) * 150)

    def test_40_and_41(self):
        self.assertEqual(len(read_script(coin_craft(), ("stop",) * 40)), 40)
        self.refused(TooLong(41), read_script, coin_craft(), ("stop",) * 41)
        self.refused(TooLong(300), read_script, coin_craft(), ("stop",) * 300)
