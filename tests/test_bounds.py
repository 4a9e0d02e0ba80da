from shownempty.acts import Act
from shownempty.bounds import Bounded, judge_bound
from shownempty.craft import Craft
from shownempty.errors import BadWorld, TooMany
from shownempty.plays import Play
from shownempty.standings import Standings
from tests.acthelp import changed_rows, rows_of, runs_behind, some_plays
from tests.helpers import NO_INTEGERS, NO_STANDINGS, Case, as_lists, coin_act, coin_craft, spoil
from tests.test_standings import BAD_WORLDS, long_act, many_standings

END = ("end",)
KEEP = ("do", "pass", "keep")
LOAD = ("do", "open", "load")
COIN = ("a", "", "")
BOTH = ("a", "", "a")
LOADED = ("a", "a", "")
# For ever 0, or a sleight of 2 and then one of 5; a coin can be loaded once.
CUES = (("ask", 0, 1), KEEP, ("ask", 0, 3), LOAD, END)
ONCE = (("ask", 0, 1), KEEP, LOAD, ("ask", 4, 3), END)
PRICES = (((0, BOTH), 7), ((1, BOTH), 7), ((2, BOTH), 5), ((3, LOADED), 0), ((4, LOADED), 0))


def prices_behind(act, standing, most):
    """The prices of all runs from the standing with at most so many answers, wherever one stops."""
    prices = [0]
    for follower in act.followers(standing):
        cue = act[standing[0]]
        price = act.craft.price_of(*cue[1:]) if cue[0] == "do" else 0
        if cue[0] != "ask" or most:
            prices.extend([price + more for more in prices_behind(act, follower, most - (cue[0] == "ask"))])
    return prices


class TestBounded(Case):

    def setUp(self):
        self.act = Act(coin_craft(), ONCE)

    def test_bounded(self):
        bounded = Bounded(self.act, BOTH)
        self.assertIs(bool(bounded), True)
        self.assertEqual((bounded.bound, bounded.breach), (7, None))
        self.verdict(bounded, PRICES)

    def test_not_bounded(self):
        bounded = Bounded(coin_act(), COIN)
        self.assertIs(bool(bounded), False)
        self.assertEqual((bounded.bound, bounded.breach), (None, ("", "1")))
        self.assert_plain(bounded.breach)
        self.verdict(bounded, None)

    def test_a_stuck_stroke_costs_nothing(self):
        # There is no second coin in the pocket.
        bounded = Bounded(self.act, COIN)
        self.assertEqual(bounded.table, (((0, COIN), 2), ((1, COIN), 2), ((2, COIN), 0)))

    def test_loops_that_cost_nothing(self):
        act = Act(coin_craft(), (("do", "open", ""), ("ask", 0, 2), END))
        self.verdict(Bounded(act, COIN), tuple(((k, COIN), 0) for k in range(3)))
        self.assertEqual(Bounded(act, COIN).bound, 0)

    def test_the_least_answers_and_the_least_dear_loop(self):
        # By 0 the loop costs nothing, by 10 it costs something.
        self.assertEqual(Bounded(Act(coin_craft(), CUES), BOTH).breach, ("", "10"))
        # A dear loop can go the free way more than once, and need not: 1 leads back at once.
        act = Act(coin_craft(), (("ask", 0, 1), KEEP, ("ask", 0, 0)))
        self.assertEqual(Bounded(act, COIN).breach, ("", "10"))
        # Only behind 1 there is a dear loop; the one behind 0 is free.
        act = Act(coin_craft(), (("ask", 1, 2), ("ask", 1, 1), KEEP, ("ask", 2, 4), END))
        self.assertEqual(Bounded(act, COIN).breach, ("1", "0"))

    def test_a_loop_that_passes_its_standing_twice(self):
        # The dear stroke is on a way of its own, back to the standing by a free loop.
        act = Act(coin_craft(), (("ask", 1, 0), ("ask", 3, 2), KEEP, ("ask", 1, 0)))
        bounded = Bounded(act, COIN)
        self.assertEqual(bounded.breach, ("", "011"))

    def test_the_price_of_all_that_can_follow_wherever_one_stops(self):
        act = Act(coin_craft(), (("ask", 1, 3), KEEP, ("go", 4), ("do", "open", ""), END))
        self.assertEqual([price for _, price in Bounded(act, COIN)], [2, 2, 0, 0, 0])

    def test_attributes(self):
        start = list(BOTH)
        bounded = Bounded(start=start, act=self.act)
        spoil(start)
        self.assertIs(bounded.act, self.act)
        self.assertEqual(bounded.start, BOTH)

    def test_long_acts(self):
        act, start = long_act(END)
        self.assertEqual(Bounded(act, start).bound, 0)
        craft = Craft(2, (("pass", (("a", 0, 1),), ()),), (("slip", "pass", (("a", 0, 1),), 9, ()),))
        cues = [cue if cue[0] != "do" else ("do", "pass", "slip") for cue in act]
        bounded = Bounded(Act(craft, cues), start)
        self.assertEqual(bounded.bound, 72)
        self.assertIsNone(judge_bound(bounded.act, start, bounded.table))
        cues[1] = ("ask", 54 - 1, 1)
        self.assertEqual(Bounded(Act(craft, cues), start).bound, 72)

    def test_600_and_601(self):
        bounded = Bounded(*many_standings(10))
        self.assertEqual((len(bounded), bounded.bound), (600, 0))
        self.refused(TooMany("standing"), Bounded, *many_standings(11))

    def test_bad_worlds(self):
        for start in BAD_WORLDS:
            self.refused(BadWorld(start), Bounded, self.act, start)
            self.refused(BadWorld(start), judge_bound, self.act, start, PRICES)

    def test_many_acts(self):
        told = set()
        for act, start, _ in some_plays(800):
            bounded = Bounded(act, start)
            self.assertIs(bool(bounded), bounded.breach is None)
            if bounded:
                self.assertEqual([standing for standing, _ in bounded], list(Standings(act, start)))
                self.assertEqual(bounded.bound, dict(bounded)[0, start])
                self.assertIsNone(judge_bound(act, start, bounded.table))
                for standing, price in bounded:
                    self.assertGreaterEqual(price, max(prices_behind(act, standing, 4)))
            else:
                self.verdict(bounded, None)
                self.assertIsNone(bounded.bound)
                self.breach(act, start, bounded.breach)
            told.add(bounded.breach and tuple(len(row) for row in bounded.breach))
        self.assertLessEqual({None, (0, 1), (0, 2), (1, 1)}, told)

    def test_the_prices_are_reached(self):
        for act, start, _ in some_plays(300, 5):
            bounded = Bounded(act, start)
            for standing, price in bounded:
                if len(bounded) < 9:
                    self.assertEqual(price, max(prices_behind(act, standing, 7)))

    def breach(self, act, start, breach):
        """The breach is the least one, and the price grows with each time it is gone through."""
        first, again, third = [Play(act, start, breach[0] + times * breach[1]) for times in (0, 1, 2)]
        self.assertEqual(again.last, first.last)
        self.assertEqual(third.price - again.price, again.price - first.price)
        self.assertGreater(again.price, first.price)
        for row, run in runs_behind(act, start, 5).items():
            loops = [loop for loop in list(rows_of(4))[1:] if self.is_dear(act, run[-1], loop)]
            if loops:
                self.assertEqual(breach, (row, loops[0]))
                return

    def is_dear(self, act, standing, loop):
        at, price = standing, 0
        for answer in loop:
            if act.rest_at(at) != "ask":
                return False
            run = act.run_from(act.followers(at)[int(answer)])
            price += sum([act.craft.price_of(*act[number][1:]) for number, _ in run[:-1] if act[number][0] == "do"])
            at = run[-1]
        return at == standing and price > 0


class TestJudged(Case):

    def setUp(self):
        self.act = Act(coin_craft(), ONCE)

    def judge(self, table):
        return judge_bound(self.act, BOTH, table)

    def test_right(self):
        self.judged(self.judge, PRICES, None)
        self.judged(self.judge, PRICES[::-1] + PRICES, None)
        self.assertIsNone(judge_bound(self.act, list(BOTH), as_lists(PRICES)))

    def test_greater_prices_are_right(self):
        self.judged(self.judge, [(standing, price + 10 ** 39) for standing, price in PRICES], None)
        self.judged(self.judge, (((0, BOTH), 8),) + PRICES[1:], None)

    def test_rows_left_out(self):
        for k, rows in changed_rows(PRICES):
            self.judged(self.judge, rows, (-1, 0, 1, 2, 3)[k])

    def test_lesser_prices(self):
        for k, result in ((0, 0), (1, 1), (2, 2)):
            standing, price = PRICES[k]
            self.judged(self.judge, PRICES[:k] + ((standing, price - 1),) + PRICES[k + 1:], result)
        self.judged(self.judge, PRICES[:3] + (((3, LOADED), 1),) + PRICES[4:], 2)
        self.judged(self.judge, PRICES[:4] + (((4, LOADED), 1),), 3)

    def test_stuck_rows_may_cost_anything(self):
        rows = (((0, COIN), 2), ((1, COIN), 2), ((2, COIN), 0))
        self.judged(lambda table: judge_bound(self.act, COIN, table), rows, None)
        self.judged(self.judge, PRICES + (((2, COIN), 0), ((2, COIN), 3)), None)

    def test_rows_never_reached(self):
        self.judged(self.judge, PRICES + (((1, COIN), 9),), 5)
        self.judged(self.judge, PRICES + (((4, COIN), 9), ((3, COIN), 8)), 6)
        self.judged(self.judge, PRICES + (((4, COIN), 0), ((3, COIN), 9)), None)

    def test_the_first_of_several_rows_counts(self):
        self.judged(self.judge, PRICES + (((2, BOTH), 6),), None)
        self.judged(self.judge, (((2, BOTH), 6),) + PRICES, 2)
        self.judged(self.judge, (((2, BOTH), -6),) + PRICES, 0)

    def test_rows_of_another_form(self):
        rows = [(row, 0) for row in NO_STANDINGS] + [((0, BOTH), price) for price in NO_INTEGERS + (-1,)]
        for row in rows + [(0, BOTH), ((0, BOTH),), ((0, BOTH), 2, 0)] + list(NO_STANDINGS):
            self.assertEqual(self.judge(PRICES + (row,)), 5)
            self.assertEqual(self.judge((row,) + PRICES), 0)
            self.assertEqual(self.judge((row,) + PRICES[1:]), -1)

    def test_the_first_one_is_lacking(self):
        self.judged(self.judge, (), -1)
        self.judged(self.judge, (((0, COIN), 9),) + PRICES[1:], -1)

    def test_no_table_is_right_where_there_is_no_bound(self):
        for prices in ((2, 0, 0, 0), (9, 9, 9, 9), (9, 7, 7, 0)):
            table = [((k, COIN), price) for k, price in enumerate(prices)]
            self.assertIsNotNone(judge_bound(coin_act(), COIN, table))

    def test_each_row_left_out_or_lowered_is_noticed(self):
        for act, start, _ in some_plays(150, 6):
            bounded = Bounded(act, start)
            for k, rows in changed_rows(bounded.table or ()):
                self.assertEqual(judge_bound(act, start, rows) == -1, bounded.table[k][0] == (0, start))
                self.assertIsNotNone(judge_bound(act, start, rows))

    def test_more_standings_than_a_verdict_can_have(self):
        act, start = many_standings(11)
        self.assertEqual(judge_bound(act, start, [((k, start), 0) for k in range(30)]), 29)
