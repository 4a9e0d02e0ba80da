from shownempty.acts import Act
from shownempty.errors import BadWish, BadWorld, TooMany
from shownempty.plays import Play
from shownempty.standings import Standings
from shownempty.wishes import Keeps, Reaches, judge_keeps, judge_never
from shownempty.worlds import fits
from tests.acthelp import changed_rows, some_plays
from tests.helpers import NO_STANDINGS, NO_TUPLES, Case, as_lists, coin_act, coin_craft, spoil
from tests.test_standings import BAD_WORLDS, long_act, many_standings

END = ("end",)
COIN = ("a", "", "")
PASSED = ("", "a", "")
# By 0 the coin is passed, by 1 it stays.
ACT = (("ask", 1, 2), ("do", "pass", ""), END)
ROWS = ((0, COIN), (1, COIN), (2, PASSED), (2, COIN))
ROWS_ASCENDING = tuple(sorted(ROWS))
ANY = (None, None, None)
BAD_WISHES = NO_TUPLES + ((), (None,) * 2, (None,) * 4, ("ba", None, None), (True, None, None), ("aaaaa", "bbbb", None),
                          (("a",), None, None))


class TestVerdicts(Case):

    def setUp(self):
        self.act = Act(coin_craft(), ACT)

    def test_kept(self):
        for wish in (ANY, (None, None, ""), [None, None, ""]):
            keeps = Keeps(self.act, COIN, wish)
            self.assertIs(bool(keeps), True)
            self.assertIsNone(keeps.answers)
            self.verdict(keeps, ROWS_ASCENDING)

    def test_not_kept(self):
        for wish, answers in ((PASSED, "1"), (("a", None, None), "0"), ((None, None, "a"), "0")):
            keeps = Keeps(self.act, COIN, wish)
            self.assertEqual((bool(keeps), keeps.answers), (False, answers))
            self.verdict(keeps, None)

    def test_reached(self):
        for wish, answers in ((PASSED, "0"), (COIN, "1"), (ANY, "0"), ((None, None, ""), "0")):
            reaches = Reaches(self.act, COIN, wish)
            self.assertIs(bool(reaches), True)
            self.assertEqual(reaches.answers, answers)
            self.verdict(reaches, None)

    def test_never_reached(self):
        for wish in (("", "", None), ["b", None, None]):
            reaches = Reaches(self.act, COIN, wish)
            self.assertIs(bool(reaches), False)
            self.assertIsNone(reaches.answers)
            self.verdict(reaches, ROWS_ASCENDING)

    def test_an_end_at_once(self):
        act = Act(coin_craft(), (END,))
        self.assertEqual(Keeps(act, COIN, PASSED).answers, "")
        self.assertEqual(Reaches(act, COIN, COIN).answers, "")

    def test_acts_that_never_end(self):
        # Stuck or asking for ever: each wish is kept, and none is reached.
        for cues in ((("ask", 0, 0),), (("do", "pass", ""), ("do", "pass", ""), END)):
            act = Act(coin_craft(), cues)
            self.assertIs(bool(Keeps(act, COIN, ("z", None, None))), True)
            self.assertIs(bool(Reaches(act, COIN, ANY)), False)

    def test_worlds_that_only_stand_elsewhere_do_not_count(self):
        act = Act(coin_craft(), (("do", "pass", ""), ("ask", 2, 2), ("do", "reach", ""), END))
        self.assertIs(bool(Keeps(act, COIN, PASSED)), True)
        self.assertIs(bool(Reaches(act, COIN, COIN)), False)

    def test_attributes(self):
        start, wish = list(COIN), [None, None, ""]
        for kind in (Keeps, Reaches):
            verdict = kind(wish=wish, start=start, act=self.act)
            self.assertIs(verdict.act, self.act)
            self.assertEqual((type(verdict.wish), verdict.wish, verdict.start), (tuple, (None, None, ""), COIN))
        spoil(start)
        wish[0] = "a"
        self.assertEqual((verdict.wish, verdict.start), ((None, None, ""), COIN))

    def test_many_acts(self):
        told = set()
        for act, start, rng in some_plays(500):
            wish = tuple([rng.choice((None, "", word)) for word in rng.choice(list(Standings(act, start)))[1]])
            standings = Standings(act, start)
            ends = [standing for standing in standings if act.rest_at(standing) == "end"]
            good = [standings[end] for end in ends if fits(end[1], wish)]
            bad = [standings[end] for end in ends if not fits(end[1], wish)]
            self.least(Keeps(act, start, wish), bad, tuple(standings), judge_keeps)
            self.least(Reaches(act, start, wish), good, tuple(standings), judge_never)
            told.add((bool(good), bool(bad)))
        self.assertEqual(len(told), 4)

    def least(self, verdict, rows, table, judge):
        """The verdict tells the least of the rows, or the table, which is judged to be right."""
        expected = min(rows, key=lambda row: (len(row), row), default=None)
        self.assertEqual(verdict.answers, expected)
        self.assertIs(bool(verdict), (expected is None) == isinstance(verdict, Keeps))
        self.verdict(verdict, table if expected is None else None)
        act, start, wish = verdict.act, verdict.start, verdict.wish
        if expected is None:
            self.assertIsNone(judge(act, start, wish, table))
        else:
            last = Play(act, start, expected).last
            self.assertEqual((act.rest_at(last), fits(last[1], wish)), ("end", isinstance(verdict, Reaches)))
            self.assertIsNotNone(judge(act, start, wish, table))

    def test_long_acts(self):
        act, start = long_act(END)
        self.assertEqual(Keeps(act, start, ("", "")).answers, "0" * 400)
        self.assertEqual(Reaches(act, start, ("", None)).answers, "0" * 400)

    def test_600_and_601(self):
        for kind in (Keeps, Reaches):
            act, start = many_standings(10)
            self.assertEqual(len(kind(act, start, ("c", None))), 600)
            act, start = many_standings(11)
            self.refused(TooMany("standing"), kind, act, start, ("c", None))

    def test_errors_in_their_order(self):
        many, start = many_standings(11)
        for call in (Keeps, Reaches, lambda *args: judge_keeps(*args, ROWS), lambda *args: judge_never(*args, ROWS)):
            for world in BAD_WORLDS:
                self.refused(BadWorld(world), call, self.act, world, "no wish")
            for wish in BAD_WISHES:
                self.refused(BadWish(wish), call, self.act, COIN, wish)
            self.refused(BadWish(ANY), call, many, start, ANY)


class TestJudged(Case):

    def setUp(self):
        self.act = Act(coin_craft(), ACT)

    def keeps(self, table):
        return judge_keeps(self.act, COIN, (None, None, ""), table)

    def never(self, table):
        return judge_never(self.act, COIN, (None, None, "a"), table)

    def test_right(self):
        for judge in (self.keeps, self.never):
            self.judged(judge, ROWS, None)
            self.judged(judge, ROWS[::-1] + ROWS, None)
        self.assertIsNone(judge_keeps(self.act, list(COIN), [None, None, ""], as_lists(ROWS)))
        self.assertIsNone(judge_never(self.act, list(COIN), [None, None, "a"], as_lists(ROWS)))

    def test_rows_left_out(self):
        for judge in (self.keeps, self.never):
            for k, rows in changed_rows(ROWS):
                self.judged(judge, rows, (-1, 0, 1, 0)[k])

    def test_ends_that_do_not_fit(self):
        self.judged(lambda table: judge_keeps(self.act, COIN, PASSED, table), ROWS, 3)
        self.judged(lambda table: judge_keeps(self.act, COIN, COIN, table), ROWS, 2)
        self.judged(lambda table: judge_never(self.act, COIN, PASSED, table), ROWS, 2)
        self.judged(lambda table: judge_never(self.act, COIN, COIN, table), ROWS, 3)
        self.judged(lambda table: judge_never(self.act, COIN, ANY, table), ROWS, 2)

    def test_rows_never_reached(self):
        self.judged(self.keeps, ROWS + ((2, ("", "", "")), (1, ("", "b", ""))), None)
        self.judged(self.keeps, ROWS + ((2, ("", "", "a")),), 4)
        self.judged(self.never, ROWS + ((2, ("", "", "b")), (1, ("", "b", ""))), None)
        self.judged(self.never, ROWS + ((2, ("", "", "a")),), 4)

    def test_rows_of_another_form(self):
        for judge in (self.keeps, self.never):
            for row in NO_STANDINGS:
                self.assertEqual(judge(ROWS + (row,)), 4)
                self.assertEqual(judge((row,) + ROWS), 0)
                self.assertEqual(judge((row,) + ROWS[1:]), -1)

    def test_the_first_one_is_lacking(self):
        for judge in (self.keeps, self.never):
            self.judged(judge, (), -1)
            self.judged(judge, ((0, PASSED),) + ROWS[1:], -1)

    def test_loops_are_right(self):
        act = coin_act()
        rows = tuple(Standings(act, COIN))
        self.judged(lambda table: judge_keeps(act, COIN, COIN, table), rows, None)
        self.judged(lambda table: judge_never(act, COIN, PASSED, table), rows, None)
        self.judged(lambda table: judge_keeps(act, COIN, COIN, table), rows[:2], 1)

    def test_each_row_left_out_is_noticed(self):
        for act, start, _ in some_plays(150, 3):
            wish = (None,) * act.craft.size
            table = Keeps(act, start, wish).table
            for k, rows in changed_rows(table):
                self.assertEqual(judge_keeps(act, start, wish, rows) == -1, table[k] == (0, start))
                self.assertIsNotNone(judge_keeps(act, start, wish, rows))

    def test_more_standings_than_a_verdict_can_have(self):
        act, start = many_standings(11)
        self.assertEqual(judge_keeps(act, start, (None, None), [(k, start) for k in range(30)]), 29)
