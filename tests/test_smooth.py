from shownempty.acts import Act
from shownempty.errors import BadWorld, TooMany
from shownempty.plays import Play
from shownempty.smooth import Smooth, judge_smooth
from shownempty.standings import Standings
from tests.helpers import NO_INTEGERS, NO_TUPLES, Case, as_lists, coin_act, coin_craft
from tests.scripthelp import STARTS
from tests.test_standings import BAD_WORLDS, acts, long_act, many_standings

END = ("end",)
PASS = ("do", "pass", "")
COIN = ("a", "", "")
PASSED = ("", "a", "")
# Smooth as long as the guests do not ask to see the pass again.
AGAIN = (PASS, ("ask", 2, 0), END)
STANDINGS = ((0, COIN), (1, COIN), (2, COIN), (3, COIN))


class TestVerdict(Case):

    def test_smooth(self):
        smooth = Smooth(coin_act(), COIN)
        self.assertIs(bool(smooth), True)
        self.assertIsNone(smooth.answers)
        self.assertEqual((smooth.table, len(smooth), list(smooth)), (STANDINGS, 4, list(STANDINGS)))

    def test_stuck(self):
        smooth = Smooth(Act(coin_craft(), AGAIN), COIN)
        self.assertIs(bool(smooth), False)
        self.assertEqual((smooth.answers, smooth.table, len(smooth), list(smooth)), ("1", None, 0, []))

    def test_stuck_at_once(self):
        smooth = Smooth(Act(coin_craft(), (PASS, END)), PASSED)
        self.assertEqual((bool(smooth), smooth.answers, smooth.table), (False, "", None))

    def test_the_least_answers(self):
        # 1 leads to a stuck standing, and so do 00 and 01, whose standings are less.
        act = Act(coin_craft(), (("ask", 1, 4), ("ask", 2, 2), PASS, END, PASS, END))
        self.assertEqual(Smooth(act, PASSED).answers, "1")
        act = Act(coin_craft(), (("ask", 2, 1), ("ask", 5, 3), ("ask", 5, 4), PASS, PASS, END))
        self.assertEqual(Smooth(act, PASSED).answers, "01")

    def test_what_is_not_reached_does_not_count(self):
        act = Act(coin_craft(), (("glance", 1, "a", 3), PASS, END, END, PASS, PASS, END))
        for start, smooth in ((COIN, True), (PASSED, True), (("", "", ""), False)):
            self.assertIs(bool(Smooth(act, start)), smooth)

    def test_attributes(self):
        act = coin_act()
        for start in (COIN, list(COIN)):
            smooth = Smooth(start=start, act=act)
            self.assertIs(smooth.act, act)
            self.assertEqual(smooth.start, COIN)
            self.assert_plain((smooth.start, smooth.table))

    def test_many_acts(self):
        seen = set()
        for act in acts():
            for start in STARTS:
                smooth = Smooth(act, start)
                standings = Standings(act, start)
                stuck = [standings[standing] for standing in standings if act.rest_at(standing) == "stuck"]
                self.assertIs(bool(smooth), not stuck)
                if stuck:
                    self.assertEqual(smooth.answers, min(stuck, key=lambda row: (len(row), row)))
                    self.assertEqual(Play(act, start, smooth.answers).rest, "stuck")
                    self.assertIsNone(smooth.table)
                else:
                    self.assertEqual(smooth.table, tuple(standings))
                    self.assertIsNone(judge_smooth(act, start, smooth.table))
                seen.add(bool(smooth))
        self.assertEqual(seen, {True, False})

    def test_more_answers_than_a_play_can_have(self):
        self.assertIs(bool(Smooth(*long_act(END))), True)
        act, start = long_act(PASS)
        self.assertEqual(Smooth(act, start).answers, "0" * 400)

    def test_600_and_601(self):
        act, start = many_standings(10)
        self.assertEqual(Smooth(act, start).answers, "0" * 9)
        # The whole list is counted, although a stuck standing comes early.
        act, start = many_standings(11)
        self.refused(TooMany("standing"), Smooth, act, start)

    def test_bad_worlds(self):
        for start in BAD_WORLDS:
            self.refused(BadWorld(start), Smooth, coin_act(), start)
            self.refused(BadWorld(start), judge_smooth, coin_act(), start, STANDINGS)


class TestJudged(Case):

    def setUp(self):
        self.act = coin_act()

    def judged(self, result, *rows):
        """The table is judged so, also if it is passed as lists."""
        got = judge_smooth(self.act, COIN, rows)
        self.assertEqual((type(got), got), (type(result), result))
        self.assertEqual(judge_smooth(self.act, list(COIN), as_lists(rows)), result)

    def test_right(self):
        self.judged(None, *STANDINGS)

    def test_any_order_and_twice(self):
        self.judged(None, *STANDINGS[::-1])
        self.judged(None, *STANDINGS, *STANDINGS)

    def test_rows_about_what_is_never_reached(self):
        self.judged(None, *STANDINGS, (3, PASSED), (2, ("", "", "bc")), (3, ("", "", "bc")))
        self.judged(4, *STANDINGS, (2, PASSED), (3, COIN))
        self.judged(5, *STANDINGS, (3, PASSED), (1, PASSED))

    def test_the_first_one_is_lacking(self):
        self.judged(-1)
        self.judged(-1, *STANDINGS[1:])
        self.judged(-1, (0, PASSED), *STANDINGS[1:])
        self.judged(-1, None, *STANDINGS[1:])

    def test_rows_left_out(self):
        self.judged(0, STANDINGS[0], *STANDINGS[2:])
        self.judged(1, *STANDINGS[:2], STANDINGS[3])
        self.judged(2, *STANDINGS[:3])
        self.judged(2, STANDINGS[2], STANDINGS[3], STANDINGS[0])
        self.judged(0, STANDINGS[1], STANDINGS[0])

    def test_rows_of_another_form(self):
        rows = [(0, ("a", "")), (4, COIN), (-1, COIN), (3,), (3, COIN, 0), (), COIN, (0, ("ba", "", "")), "3a"]
        rows.extend([(number, COIN) for number in NO_INTEGERS] + list(NO_TUPLES))
        for row in rows:
            self.assertEqual(judge_smooth(self.act, COIN, STANDINGS + (row,)), 4)
            self.assertEqual(judge_smooth(self.act, COIN, (row,) + STANDINGS), 0)
            self.assertEqual(judge_smooth(self.act, COIN, [row, "x"] + as_lists(STANDINGS)), 0)

    def test_what_stands_in_rows_of_another_form_alone_is_lacking(self):
        for row in ((True, COIN), (1, COIN, 0), (1, COIN + ("",)), ((1, COIN),)):
            self.judged(0, STANDINGS[0], row, *STANDINGS[2:])
        for row in ((False, COIN), (0, COIN, 0), [(0, COIN)]):
            self.judged(-1, row, *STANDINGS[1:])

    def test_stuck_rows(self):
        act = Act(coin_craft(), AGAIN)
        rows = ((0, COIN), (1, PASSED), (2, PASSED), (0, PASSED))
        self.assertEqual(judge_smooth(act, COIN, rows), 3)
        self.assertEqual(judge_smooth(act, COIN, rows[:3]), 1)
        self.assertEqual(judge_smooth(act, COIN, rows[::-1]), 0)
        self.assertEqual(judge_smooth(act, PASSED, rows), 3)
        self.assertEqual(judge_smooth(act, ("a", "a", ""), rows), -1)

    def test_both_followers_of_an_ask(self):
        act = Act(coin_craft(), (("ask", 1, 2), END, END))
        self.assertIsNone(judge_smooth(act, COIN, ((0, COIN), (1, COIN), (2, COIN))))
        self.assertEqual(judge_smooth(act, COIN, ((0, COIN), (1, COIN))), 0)
        self.assertEqual(judge_smooth(act, COIN, ((0, COIN), (2, COIN))), 0)

    def test_glances_and_gos(self):
        act = Act(coin_craft(), (("glance", 1, "a", 2), ("go", 3), PASS, END))
        self.assertIsNone(judge_smooth(act, COIN, ((0, COIN), (1, COIN), (3, COIN))))
        self.assertEqual(judge_smooth(act, COIN, ((0, COIN), (2, COIN), (3, PASSED))), 0)
        self.assertEqual(judge_smooth(act, COIN, ((0, COIN), (1, COIN))), 1)

    def test_more_standings_than_a_verdict_can_have(self):
        act, start = many_standings(11)
        rows = [(k, start) for k in range(30)]
        self.assertEqual(judge_smooth(act, start, rows), 29)

    def test_right_tables_of_many_rows(self):
        act, start = long_act(END)
        standings = tuple(Standings(act, start))
        self.assertIsNone(judge_smooth(act, start, standings))
        for k in range(1, len(standings), 40):
            self.assertIsNotNone(judge_smooth(act, start, standings[:k] + standings[k + 1:]))

    def test_each_row_left_out_is_noticed(self):
        for act in acts():
            smooth = Smooth(act, COIN)
            for k in range(len(smooth)):
                rows = smooth.table[:k] + smooth.table[k + 1:]
                self.assertEqual(judge_smooth(act, COIN, rows) == -1, smooth.table[k] == (0, COIN))
                self.assertIsNotNone(judge_smooth(act, COIN, rows))
