import itertools

from shownempty.acts import Act
from shownempty.compiled import act_of
from shownempty.errors import BadAnswer, TooLong, TooMany
from shownempty.plays import Play, show_of
from shownempty.scriptplays import played
from shownempty.scripts import Script
from tests.helpers import Case, as_lists, coin_craft
from tests.scripthelp import BACK, DO, KEEP, LOAD, OPEN, STARTS, STOP, nested, some_bodies

END = ("end",)


class TestCues(Case):

    def led(self, body, *cues):
        act = act_of(Script(coin_craft(), body))
        self.assertIsInstance(act, Act)
        self.assertEqual(act.cues, cues)
        self.assertEqual(act_of(Script(coin_craft(), as_lists(body))), act)
        self.assert_plain(act.cues)

    def test_no_statements(self):
        self.led((), END)

    def test_do_and_stop(self):
        self.led((KEEP, STOP, OPEN), KEEP, END, OPEN, END)

    def test_either(self):
        body = (DO, ("either", (OPEN, OPEN), (KEEP, BACK, DO)), STOP)
        self.led(body, DO, ("ask", 2, 5), OPEN, OPEN, ("go", 8), KEEP, BACK, DO, END, END)

    def test_either_with_empty_bodies(self):
        self.led((("either", (), ()),), ("ask", 1, 2), ("go", 2), END)
        self.led((("either", (DO,), ()),), ("ask", 1, 3), DO, ("go", 3), END)
        self.led((("either", (), (DO,)),), ("ask", 1, 2), ("go", 3), DO, END)

    def test_again(self):
        self.led((DO, ("again", (KEEP, OPEN)), BACK), DO, KEEP, OPEN, ("ask", 4, 1), BACK, END)

    def test_again_without_statements(self):
        self.led((("again", ()),), ("ask", 1, 0), END)
        self.led((DO, ("again", (("again", ()),))), DO, ("ask", 2, 1), ("ask", 3, 1), END)

    def test_peek(self):
        body = (DO, ("peek", 2, "b", (LOAD, OPEN), (KEEP, BACK, DO)), STOP)
        self.led(body, DO, ("glance", 2, "b", 6), KEEP, BACK, DO, ("go", 8), LOAD, OPEN, END, END)

    def test_peek_with_empty_bodies(self):
        self.led((("peek", 0, "a", (), ()),), ("glance", 0, "a", 2), ("go", 2), END)
        self.led((("peek", 0, "a", (DO,), ()),), ("glance", 0, "a", 2), ("go", 3), DO, END)
        self.led((("peek", 0, "a", (), (DO,)),), ("glance", 0, "a", 3), DO, ("go", 3), END)

    def test_within_one_another(self):
        body = (("again", (("either", (("peek", 1, "a", (OPEN,), ()),), (("again", (DO,)), STOP)),)),)
        self.led(
            body,
            ("ask", 1, 5), ("glance", 1, "a", 3), ("go", 4), OPEN, ("go", 8), DO, ("ask", 7, 5), END,
            ("ask", 9, 0), END,
        )

    def test_the_craft_is_that_of_the_script(self):
        craft = coin_craft()
        self.assertIs(act_of(Script(craft, (DO,))).craft, craft)

    def test_60_and_61_cues(self):
        body = (("either", (), ()),) * 29
        self.assertEqual(len(act_of(Script(coin_craft(), body))), 59)
        self.assertEqual(len(act_of(Script(coin_craft(), body + (DO,)))), 60)
        self.refused(TooMany("cue"), act_of, Script(coin_craft(), body + (DO, DO)))
        self.refused(TooMany("cue"), act_of, Script(coin_craft(), (("peek", 0, "a", (), ()),) * 40))
        self.assertEqual(len(act_of(Script(coin_craft(), (DO,) * 40))), 41)


class TestForAllAnswers(Case):
    """The act and the script show the same, from each start."""

    def same(self, script, act, start, answers):
        try:
            told = played(script, start, answers)
        except BadAnswer as error:
            self.refused(BadAnswer(error.number), Play, act, start, answers)
            return
        play = Play(act, start, answers)
        self.assertEqual((play.events, play.rest, play.price, play.last[1]), told)
        self.assertEqual(show_of(act, start, answers), told[:2])

    def test_many_scripts(self):
        rows = ["".join(row) for many in range(5) for row in itertools.product("01", repeat=many)]
        many = 0
        for body in some_bodies(150):
            try:
                script = Script(coin_craft(), body)
                act = act_of(script)
            except (TooLong, TooMany):
                continue
            many += 1
            for start, answers in itertools.product(STARTS, rows):
                self.same(script, act, start, answers)
        self.assertGreater(many, 100)

    def test_long_answers(self):
        script = Script(coin_craft(), nested(4, (KEEP, ("either", (OPEN,), (BACK,)))))
        act = act_of(script)
        for row in ("01" * 100, "110" * 66, "0111" * 50, "0" * 6, "01110" * 40, "1" * 200, "0101010"):
            for start in STARTS:
                self.same(script, act, start, row)
