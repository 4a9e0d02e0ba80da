from shownempty.acts import Act
from shownempty.calm import Calm, judge_calm
from shownempty.errors import BadWorld, TooMany, Unlike
from shownempty.guests import Guest
from tests.acthelp import changed_rows, rich_plays, some_guest, some_plays
from tests.helpers import NO_STANDINGS, Case, as_lists, coin_act, coin_craft, partly_lists, spoil
from tests.test_standings import BAD_WORLDS, many_standings
from tests.test_wonders import bad_minds, thoughts_behind

END = ("end",)
COIN = ("a", "", "")
PASSED = ("", "a", "")
KEPT = ((PASSED, 0), (COIN, 1))
BEGUN = ((PASSED, 0), (COIN, 0))
# The coin is passed once, and shown to be gone or not; then they are asked once more.
ONCE = (("do", "pass", "keep"), ("ask", 2, 4), ("do", "open", ""), ("ask", 4, 4), END)


class TestCalm(Case):

    def setUp(self):
        self.act = Act(coin_craft(), (("do", "pass", "keep"), ("ask", 2, 2), END))
        self.guest = Guest(coin_craft(), (PASSED, COIN), ("keep",), 2)

    def test_calm(self):
        calm = Calm(self.act, COIN, self.guest)
        self.assertIs(bool(calm), True)
        self.assertIsNone(calm.answers)
        self.verdict(calm, ((0, COIN, BEGUN), (1, COIN, KEPT), (2, COIN, KEPT)))

    def test_not_calm(self):
        calm = Calm(Act(coin_craft(), ONCE), COIN, self.guest)
        self.assertIs(bool(calm), False)
        self.assertEqual(calm.answers, "0")
        self.verdict(calm, None)

    def test_an_empty_mind_is_not_calm(self):
        act = Act(coin_craft(), ONCE)
        self.assertEqual(Calm(act, COIN, Guest.layman(coin_craft(), COIN)).answers, "0")
        self.assertEqual(Calm(act, COIN, Guest.layman(coin_craft(), PASSED)).answers, "")

    def test_only_asks_count(self):
        act = Act(coin_craft(), (("ask", 1, 1), ("do", "pass", "keep"), ("do", "open", ""), END))
        self.assertIs(bool(Calm(act, COIN, self.guest)), True)
        self.assertIs(bool(Calm(Act(coin_craft(), (END,)), COIN, self.guest)), True)

    def test_each_time_anew(self):
        # The pass can be asked for again and again; the second time he must explain it.
        calm = Calm(coin_act(), COIN, self.guest)
        self.assertEqual((bool(calm), calm.answers), (False, "1"))
        self.assertEqual(Calm(coin_act(), COIN, Guest.layman(coin_craft(), COIN)).answers, "1")

    def test_attributes(self):
        start = list(COIN)
        calm = Calm(guest=self.guest, start=start, act=self.act)
        spoil(start)
        self.assertIs(calm.act, self.act)
        self.assertIs(calm.guest, self.guest)
        self.assertEqual(calm.start, COIN)

    def test_many_acts(self):
        told = set()
        for act, start, rng in rich_plays(200, 30):
            guest = some_guest(rng, act.craft, start)
            try:
                calm = Calm(act, start, guest)
            except TooMany:
                continue
            thoughts = thoughts_behind(act, start, guest, 5)
            bad = [row for row in thoughts if act[thoughts[row][-1][0]][0] == "ask"
                   and Guest.cost(thoughts[row][-1][2]) != 0]
            if bad:
                self.assertEqual(calm.answers, bad[0])
            else:
                self.assertTrue(calm.answers is None or len(calm.answers) > 5)
            self.verdict(calm, calm.table if calm.answers is None else None)
            if calm:
                self.assertLessEqual({thought for row in thoughts.values() for thought in row}, set(calm))
                self.assertEqual(list(calm), sorted(set(calm)))
                self.assertIsNone(judge_calm(act, start, guest, calm.table))
            told.add(calm.answers and len(calm.answers))
        self.assertLessEqual({None, "", 1, 2}, told)

    def test_600_and_601(self):
        for nods in (10, 11):
            act, start = many_standings(nods)
            for held, answers in ((start, None), (("bbbb", "aaaa"), "0")):
                guest = Guest.layman(act.craft, held)
                if nods == 10:
                    self.assertEqual(Calm(act, start, guest).answers, answers)
                else:
                    # The whole list is counted, also where it is not calm.
                    self.refused(TooMany("thought"), Calm, act, start, guest)

    def test_errors_in_their_order(self):
        act, start = many_standings(11)
        other = Guest.layman(coin_craft().without("load"), COIN)
        for call in (Calm, lambda *args: judge_calm(*args, ())):
            for world in BAD_WORLDS:
                self.refused(BadWorld(world), call, self.act, world, other)
            self.refused(Unlike("craft"), call, self.act, COIN, other)
            self.refused(Unlike("craft"), call, act, start, other)


class TestJudged(Case):

    TABLE = ((0, COIN, BEGUN), (1, COIN, KEPT), (2, COIN, KEPT))

    def setUp(self):
        self.guest = Guest(coin_craft(), (PASSED, COIN), ("keep",), 2)
        self.act = Act(coin_craft(), (("do", "pass", "keep"), ("ask", 2, 2), END))

    def judge(self, table):
        return judge_calm(self.act, COIN, self.guest, table)

    def test_right(self):
        self.judged(self.judge, self.TABLE, None)
        self.judged(self.judge, self.TABLE[::-1] + self.TABLE, None)
        self.assertIsNone(judge_calm(self.act, list(COIN), self.guest, as_lists(self.TABLE)))
        self.assertIsNone(judge_calm(self.act, list(COIN), self.guest, partly_lists(self.TABLE)))

    def test_rows_left_out(self):
        for k, rows in changed_rows(self.TABLE):
            self.judged(self.judge, rows, (-1, 0, 1)[k])
        self.judged(self.judge, (), -1)
        self.judged(self.judge, ((0, COIN, KEPT),) + self.TABLE[1:], -1)

    def test_asks_at_which_nothing_is_honest(self):
        for mind, result in (((), 3), (((COIN, 1),), 3), (((COIN, 2), (("b", "", ""), 1)), 3), (((COIN, 0),), None),
                             (((COIN, 2), (("b", "", ""), 0)), None)):
            self.judged(self.judge, self.TABLE + ((1, PASSED, mind), (2, PASSED, mind)), result)
            self.judged(self.judge, self.TABLE + ((2, PASSED, mind),), None)

    def test_rows_of_another_form(self):
        rows = [thing + (((COIN, 0),),) for thing in NO_STANDINGS if isinstance(thing, tuple)]
        rows.extend([(0, COIN, mind) for mind in bad_minds((PASSED, 0), (COIN, 0))])
        for row in rows + [(0, COIN), ((0, COIN), ()), (0, COIN, (), ())] + list(NO_STANDINGS):
            self.assertEqual(self.judge(self.TABLE + (row,)), 3)
            self.assertEqual(self.judge((row,) + self.TABLE), 0)
            self.assertEqual(self.judge((row,) + self.TABLE[1:]), -1)

    def test_each_row_left_out_is_noticed(self):
        for act, start, rng in some_plays(200, 31):
            guest = some_guest(rng, act.craft, start)
            table = Calm(act, start, guest).table
            for k, rows in changed_rows(table or ()):
                self.assertEqual(judge_calm(act, start, guest, rows) == -1, table[k] == (0, start, guest.beginning))
                self.assertIsNotNone(judge_calm(act, start, guest, rows))
