import itertools

from shownempty.errors import BadAnswer, BadWorld
from shownempty.scriptplays import played
from shownempty.scripts import Script
from tests.helpers import NO_STRINGS, NO_TUPLES, Case, as_lists, coin_craft, spoil
from tests.scripthelp import BACK, DO, KEEP, LOAD, OPEN, STARTS, STOP, Told, nested, some_bodies

COIN = ("a", "", "")
LOADED = ("a", "", "a")
PASSED = ("pass", ())
SHOWN = ("open", ("",))
BAD_WORLDS = NO_TUPLES + (("", ""), ("",) * 4, ["ba", "", ""], (True, "", ""), ("aaaaa", "aaaa", ""), (None, "", ""))


def coin_script(*body):
    return Script(coin_craft(), body)


class TestStatements(Case):

    def shows(self, told, start, answers, *body):
        self.assertEqual(played(coin_script(*body), start, answers), told)

    def test_no_statements(self):
        self.shows(((), "end", 0, COIN), COIN, "")

    def test_do(self):
        self.shows(((PASSED,), "end", 0, ("", "a", "")), COIN, "", DO)
        self.shows(((PASSED, ("open", ("a",))), "end", 7, ("a", "a", "")), LOADED, "", KEEP, LOAD)

    def test_stuck(self):
        self.shows(((PASSED,), "stuck", 0, ("", "a", "")), COIN, "", DO, DO, KEEP)
        self.shows(((PASSED, "0"), "stuck", 2, COIN), COIN, "0", KEEP, ("either", (LOAD,), ()), STOP)

    def test_stop(self):
        self.shows(((PASSED,), "end", 2, COIN), COIN, "", KEEP, STOP, KEEP)
        self.shows((("0",), "end", 0, COIN), COIN, "0", ("either", (("peek", 0, "a", (STOP,), ()), KEEP), (KEEP,)), KEEP)

    def test_either(self):
        body = (("either", (KEEP,), (OPEN, OPEN)), BACK)
        self.shows(((), "ask", 0, COIN), COIN, "", *body)
        self.shows((("0", PASSED, ("reach", ("a",))), "end", 2, COIN), COIN, "0", *body)
        self.shows((("1", SHOWN, SHOWN, ("reach", ("a",))), "end", 0, COIN), COIN, "1", *body)
        self.shows((("0",), "end", 0, COIN), COIN, "0", ("either", (), ()))

    def test_again(self):
        body = (("again", (KEEP,)), OPEN)
        self.shows(((PASSED,), "ask", 2, COIN), COIN, "", *body)
        self.shows(((PASSED, "0", SHOWN), "end", 2, COIN), COIN, "0", *body)
        self.shows(((PASSED, "1", PASSED, "1", PASSED), "ask", 6, COIN), COIN, "11", *body)
        self.shows(((PASSED, "1", PASSED, "0", SHOWN), "end", 4, COIN), COIN, "10", *body)

    def test_again_without_statements(self):
        self.shows((("1", "1", "0", SHOWN), "end", 0, COIN), COIN, "110", ("again", ()), OPEN)
        self.shows((("1", "1"), "ask", 0, COIN), COIN, "11", ("again", ()), OPEN)

    def test_again_within_again(self):
        body = (("again", (OPEN, ("again", (KEEP,)))),)
        told = (SHOWN, PASSED, "1", PASSED, "0", "1", SHOWN, PASSED, "0", "0")
        self.shows((told, "end", 6, COIN), COIN, "10100", *body)

    def test_peek(self):
        for place, kind, world in itertools.product(range(3), "ab", (COIN, LOADED, ("", "abc", ""), ("", "", "b"))):
            events = (SHOWN if world[1] == "" else ("open", (world[1],)),) if kind in world[place] else ()
            self.shows((events, "end", 0, world), world, "", ("peek", place, kind, (OPEN,), (STOP,)))
            self.shows((events, "end", 0, world), world, "", ("peek", place, kind, (OPEN,), ()))
        self.shows(((), "end", 0, COIN), COIN, "", ("peek", 0, "a", (), (OPEN,)))

    def test_nobody_sees_a_peek(self):
        body = (("peek", 0, "a", (("either", (), ()),), (("either", (), ()),)), BACK)
        self.shows((("1", ("reach", ("a",))), "end", 0, COIN), COIN, "1", *body)


class TestForAllAnswers(Case):

    def test_many_scripts(self):
        rows = ["".join(row) for many in range(5) for row in itertools.product("01", repeat=many)]
        for body in some_bodies(150):
            script = Script(coin_craft(), body) if body_length(body) <= 40 else None
            for start, answers in itertools.product(STARTS, rows if script else ()):
                told, left = Told(script.craft, start, answers).tell(body)
                if left:
                    self.refused(BadAnswer(len(answers) - len(left)), played, script, start, answers)
                else:
                    self.assertEqual(played(script, start, answers), told)

    def test_the_deepest(self):
        script = Script(coin_craft(), nested(5, (KEEP,)))
        for row in itertools.product("01", repeat=6):
            answers = "".join(row)
            told, left = Told(script.craft, COIN, answers).tell(script.body)
            if not left:
                self.assertEqual(played(script, COIN, answers), told)


def body_length(body):
    return sum(1 + sum(body_length(part) for part in statement if isinstance(part, tuple)) for statement in body)


class TestArguments(Case):

    def setUp(self):
        self.script = coin_script(("again", (KEEP,)), OPEN)

    def test_lists(self):
        body = as_lists(self.script.body)
        start = list(COIN)
        told = played(Script(coin_craft(), body), start, "1")
        spoil(body)
        self.assertEqual(start, list(COIN))
        self.assertEqual(told, played(self.script, COIN, "1"))
        self.assert_plain(told)
        self.assert_plain(played(Script(coin_craft(), []), start, ""))

    def test_bad_worlds(self):
        for start in BAD_WORLDS:
            self.refused(BadWorld(start), played, self.script, start, None)

    def test_no_strings(self):
        for answers in NO_STRINGS:
            self.refused(BadAnswer(-1), played, self.script, COIN, answers)

    def test_200_and_201_answers(self):
        events, rest, price, world = played(self.script, COIN, "1" * 200)
        self.assertEqual((len(events), rest, price, world), (401, "ask", 402, COIN))
        self.refused(BadAnswer(-1), played, self.script, COIN, "1" * 201)
        self.refused(BadAnswer(-1), played, self.script, COIN, "x" + "1" * 200)

    def test_no_answers(self):
        for answer in ("2", "a", " ", "-", "x"):
            self.refused(BadAnswer(0), played, self.script, COIN, answer)
            self.refused(BadAnswer(2), played, self.script, COIN, "11" + answer + answer)
            self.refused(BadAnswer(199), played, self.script, COIN, "1" * 199 + answer)

    def test_answers_that_are_not_asked_for(self):
        self.refused(BadAnswer(1), played, self.script, COIN, "00")
        self.refused(BadAnswer(1), played, self.script, COIN, "0x")
        self.refused(BadAnswer(0), played, coin_script(DO), COIN, "0")
        self.refused(BadAnswer(0), played, coin_script(), COIN, "0")
        self.refused(BadAnswer(0), played, coin_script(STOP, ("again", ())), COIN, "1")
        self.refused(BadAnswer(1), played, coin_script(("again", (DO,))), COIN, "11")
