from shownempty.craft import Craft
from shownempty.errors import BadWorld
from shownempty.judging import judge_dear, judge_losses, judge_prices
from shownempty.making import Making
from shownempty.plotlines import read_plot
from shownempty.plots import Plot
from tests.acthelp import changed_rows, some_plots
from tests.helpers import NO_INTEGERS, NO_STANDINGS, Case, as_lists, coin_craft, partly_lists
from tests.test_making import LINES, many_plot_standings
from tests.test_standings import BAD_WORLDS

COIN = ("a", "", "")
PASSED = ("", "a", "")
BOTH = ("a", "", "a")
GONE = ("", "a", "a")
LOADED = ("a", "a", "")
# The pass is kept (2); the empty hand is shown as it is, the full one is loaded (5).
PRICES = (((0, BOTH), 7), ((1, BOTH), 5), ((2, BOTH), 0), ((3, BOTH), 5), ((4, BOTH), 0), ((4, LOADED), 0))
# There is nothing to be loaded: the hand cannot be empty and full.
LOSSES = (((0, COIN), 1), ((1, COIN), 1), ((1, PASSED), 1), ((2, PASSED), 0), ((3, COIN), 0))
# The pass must be seen again and again.
AGAIN = ("show pass . 1", "ask 0 2", "end a,?,?")
DEAR = (((0, COIN), 2), ((1, COIN), 3), ((1, PASSED), 1), ((0, PASSED), 0), ((2, PASSED), 0))
JUDGES = (judge_prices, judge_losses, judge_dear)


def dear_table(plot, making):
    """The standings without a bound, and the lost ones, with the answers within which one must pay or lose."""
    delays = {}
    left = [standing for standing, value in making if value < 0]
    for delay in range(len(left) + 1):
        again = True
        while again:
            found = [standing for standing in left if standing not in delays
                     and is_dear(plot, making, standing, delay, delays)]
            delays.update((standing, delay) for standing in found)
            again = bool(found)
    return tuple(sorted(delays.items()))


def is_dear(plot, making, standing, delay, delays):
    if plot[standing[0]][0] == "ask":
        return any(delays.get(plot.behind(standing, answer), delay) < delay for answer in "01")
    gesture = plot[standing[0]][1]
    return all(making[plot.behind(standing, option)] < 0
               and (plot.craft.price_of(gesture, option[0]) > 0
                    or delays.get(plot.behind(standing, option), delay + 1) <= delay)
               for option in plot.options(standing))


class TestPrices(Case):

    def setUp(self):
        self.plot = read_plot(coin_craft(), LINES)

    def judge(self, table):
        return judge_prices(self.plot, BOTH, table)

    def test_right(self):
        self.judged(self.judge, PRICES, None)
        self.judged(self.judge, PRICES[::-1] + PRICES, None)
        self.assertIsNone(judge_prices(self.plot, list(BOTH), as_lists(PRICES)))
        self.assertIsNone(self.judge(partly_lists(PRICES)))
        self.judged(self.judge, [(standing, price + 10 ** 39) for standing, price in PRICES], None)

    def test_rows_left_out(self):
        # Without the last row nothing is behind the loading; without the one ahead, nothing behind the empty hand.
        for k, rows in changed_rows(PRICES):
            self.judged(self.judge, rows, (-1, 0, 1, 1, 2, 3)[k])

    def test_lesser_prices(self):
        for k, result in ((0, 0), (1, 1), (3, 3)):
            standing, price = PRICES[k]
            self.judged(self.judge, PRICES[:k] + ((standing, price - 1),) + PRICES[k + 1:], result)
        self.judged(self.judge, PRICES[:5] + (((4, LOADED), 1),), 3)
        self.judged(self.judge, PRICES[:4] + (((4, BOTH), 1),) + PRICES[5:], 2)
        # The price is paid, too, where the way is just as dear.
        self.judged(self.judge, (((0, BOTH), 6),) + PRICES[1:], 0)

    def test_one_option_is_enough_and_both_answers_are_needed(self):
        # The honest pass leads to a loss; nobody asks for it to be in the table.
        self.judged(self.judge, PRICES + (((1, GONE), 9),), 6)
        # A standing at an ask needs both.
        self.judged(self.judge, tuple(row for row in PRICES if row[0] != (3, BOTH)), 1)

    def test_an_end_that_does_not_fit(self):
        plot = Plot(coin_craft(), (("end", PASSED),))
        self.judged(lambda table: judge_prices(plot, COIN, table), (((0, COIN), 0),), 0)
        self.judged(lambda table: judge_prices(plot, PASSED, table), (((0, PASSED), 0), ((0, COIN), 9)), 1)
        self.judged(lambda table: judge_prices(plot, PASSED, table), (((0, PASSED), 7),), None)

    def test_a_show_without_options(self):
        self.judged(self.judge, PRICES + (((2, GONE), 10 ** 39),), 6)
        self.judged(self.judge, PRICES + (((3, COIN), 9),), 6)

    def test_no_price_is_enough_without_a_bound(self):
        plot = read_plot(coin_craft(), AGAIN)
        for price in (0, 2, 10 ** 39):
            rows = (((0, COIN), price), ((1, COIN), max(price - 2, 0)), ((2, COIN), 0))
            self.assertIsNotNone(judge_prices(plot, COIN, rows))
        self.judged(lambda table: judge_prices(plot, COIN, table), (((0, COIN), 4), ((1, COIN), 2), ((2, COIN), 0)), 1)

    def test_loops_that_cost_nothing(self):
        plot = read_plot(coin_craft(), ("show open - 1", "ask 0 0"))
        self.judged(lambda table: judge_prices(plot, COIN, table), (((0, COIN), 0), ((1, COIN), 0)), None)
        self.judged(lambda table: judge_prices(plot, COIN, table), (((0, COIN), 1), ((1, COIN), 0)), 1)

    def test_the_first_of_several_rows_counts(self):
        self.judged(self.judge, PRICES + (((3, BOTH), 6),), None)
        self.judged(self.judge, (((3, BOTH), 6),) + PRICES, 2)
        self.judged(self.judge, PRICES + (((3, BOTH), 4),), 6)

    def test_rows_never_reached(self):
        self.judged(self.judge, PRICES + (((4, PASSED), 3), ((3, PASSED), 3)), None)
        self.judged(self.judge, PRICES + (((4, PASSED), 3), ((3, PASSED), 2)), 7)

    def test_many_plots(self):
        told = set()
        for plot, start, _ in some_plots(300, 60):
            making = Making(plot, start)
            table = tuple([row for row in making if row[1] >= 0])
            result = judge_prices(plot, start, table)
            self.assertEqual(result, None if making.least >= 0 else -1)
            told.add(result)
            for k, (standing, price) in enumerate(table):
                if making.least >= 0 and price > 0:
                    rows = table[:k] + ((standing, price - 1),) + table[k + 1:]
                    self.assertIsNotNone(judge_prices(plot, start, rows))
            for k, rows in changed_rows(table):
                if table[k][0] == (0, start):
                    self.assertEqual(judge_prices(plot, start, rows), -1)
        self.assertEqual(told, {None, -1})


class TestLosses(Case):

    def setUp(self):
        self.plot = read_plot(coin_craft(), LINES)

    def judge(self, table):
        return judge_losses(self.plot, COIN, table)

    def test_right(self):
        self.judged(self.judge, LOSSES, None)
        self.judged(self.judge, LOSSES[::-1] + LOSSES, None)
        self.judged(self.judge, tuple((standing, delay + k) for k, (standing, delay) in
                                      zip((9, 8, 9, 7, 7), LOSSES)), None)

    def test_rows_left_out(self):
        for k, rows in changed_rows(LOSSES):
            self.judged(self.judge, rows, (-1, 0, 0, 2, 1)[k])

    def test_delays(self):
        # At a show they may not be greater, at an ask one of them must be less.
        self.judged(self.judge, (((0, COIN), 0),) + LOSSES[1:], 0)
        self.judged(self.judge, LOSSES[:1] + (((1, COIN), 0),) + LOSSES[2:], 1)
        self.judged(self.judge, LOSSES[:1] + (((1, COIN), 2),) + LOSSES[2:], 0)
        self.judged(self.judge, LOSSES[:4] + (((3, COIN), 1),), 1)
        # A broken standing may have any delay.
        self.judged(self.judge, LOSSES + (((3, COIN), 10 ** 39), ((2, ("", "b", "")), 5)), None)

    def test_all_options_and_one_answer(self):
        # By 0 the hand is shown empty: this need not be told, since 1 is enough.
        self.judged(self.judge, LOSSES[:2] + LOSSES[2:], None)
        self.judged(self.judge, LOSSES + (((1, BOTH), 9),), 5)
        self.judged(self.judge, LOSSES + (((4, COIN), 9),), 5)
        self.judged(self.judge, LOSSES + (((2, COIN), 9),), 5)

    def test_ends(self):
        plot = Plot(coin_craft(), (("end", PASSED),))
        self.judged(lambda table: judge_losses(plot, COIN, table), (((0, COIN), 0),), None)
        self.judged(lambda table: judge_losses(plot, PASSED, table), (((0, PASSED), 0), ((0, COIN), 4)), 0)

    def test_a_price_changes_nothing(self):
        # Where all options must be paid for, they are no loss for this alone.
        plot = read_plot(coin_craft(), AGAIN)
        rows = (((0, COIN), 2), ((1, COIN), 9), ((1, PASSED), 1), ((2, PASSED), 0))
        self.judged(lambda table: judge_losses(plot, COIN, table), rows, 0)

    def test_many_plots(self):
        told = set()
        for plot, start, _ in some_plots(300, 61):
            making = Making(plot, start)
            table = tuple([(standing, making.delay(standing)) for standing, value in making if value == -2])
            self.assertEqual(judge_losses(plot, start, table), None if not making else -1)
            told.add(bool(making))
            for k, (standing, delay) in enumerate(table):
                rows = table[:k] + ((standing, delay - 1),) + table[k + 1:]
                if not making and delay > 0:
                    self.assertIsNotNone(judge_losses(plot, start, rows))
        self.assertEqual(told, {True, False})


class TestDear(Case):

    def setUp(self):
        self.plot = read_plot(coin_craft(), AGAIN)

    def judge(self, table):
        return judge_dear(self.plot, COIN, table)

    def test_right(self):
        # Behind the kept pass the delay is greater: this is let, since it must be paid.
        self.judged(self.judge, DEAR, None)
        self.judged(self.judge, DEAR[::-1] + DEAR, None)

    def test_rows_left_out(self):
        for k, rows in changed_rows(DEAR):
            self.judged(self.judge, rows, (-1, 0, 0, None, None)[k])
        # Either of the two is enough at the ask, but not none.
        self.judged(self.judge, DEAR[:3], 2)

    def test_delays(self):
        # What costs nothing may not have a greater delay.
        self.judged(self.judge, (((0, COIN), 0),) + DEAR[1:], 0)
        self.judged(self.judge, (((0, COIN), 1),) + DEAR[1:], None)
        self.judged(self.judge, DEAR[:1] + (((1, COIN), 10 ** 39),) + DEAR[2:], None)
        self.judged(self.judge, DEAR[:1] + (((1, COIN), 2),) + DEAR[2:], 1)
        self.judged(self.judge, DEAR[:2] + (((1, PASSED), 0),) + DEAR[3:], 2)

    def test_free_loops_are_not_dear(self):
        plot = read_plot(coin_craft(), ("show open - 1", "ask 0 0"))
        for first, second in ((0, 0), (1, 1), (2, 1), (1, 2)):
            self.assertIsNotNone(judge_dear(plot, COIN, (((0, COIN), first), ((1, COIN), second))))

    def test_a_dear_way_beside_a_free_one(self):
        # One can stand still for nothing, so it is not enough that the other option must be paid.
        craft = Craft(2, (("nod", (), ()),), (("grip", "nod", (), 3, ()),))
        plot = Plot(craft, (("show", "nod", (((), 1),)), ("ask", 0, 0)))
        rows = (((0, ("", "")), 5), ((1, ("", "")), 6))
        self.judged(lambda table: judge_dear(plot, ("", ""), table), rows, 0)
        dear = Plot(Craft(2, (("nod", (("a", 0, 1),), ()),), craft.sleights), plot.cues)
        self.judged(lambda table: judge_dear(dear, ("", ""), table), rows, None)

    def test_losses_are_dear_too(self):
        plot = read_plot(coin_craft(), LINES)
        self.judged(lambda table: judge_dear(plot, COIN, table), LOSSES, None)

    def test_many_plots(self):
        told = set()
        for plot, start, _ in some_plots(600, 62):
            making = Making(plot, start)
            table = dear_table(plot, making)
            self.assertEqual([standing for standing, _ in table], [row[0] for row in making if row[1] < 0])
            self.assertEqual(judge_dear(plot, start, table), None if making.least < 0 else -1)
            told.add(min(making.least, 0))
        self.assertEqual(told, {-2, -1, 0})


class TestAll(Case):

    def tables(self):
        plot = read_plot(coin_craft(), LINES)
        yield judge_prices, plot, BOTH, PRICES
        yield judge_losses, plot, COIN, LOSSES
        yield judge_dear, read_plot(coin_craft(), AGAIN), COIN, DEAR

    def test_rows_of_another_form(self):
        for judge, plot, start, table in self.tables():
            # The last row is right with any number.
            rows = [(row, 0) for row in NO_STANDINGS]
            rows.extend([(standing, number) for standing in ((0, start), table[-1][0]) for number in NO_INTEGERS + (-1,)])
            for row in rows + [(0, start), ((0, start),), ((0, start), 2, 0)] + list(NO_STANDINGS):
                self.assertEqual(judge(plot, start, table + (row,)), len(table))
                self.assertEqual(judge(plot, start, (row,) + table), 0)
                self.assertEqual(judge(plot, start, (row,) + table[1:]), -1)

    def test_the_first_one_is_lacking(self):
        for judge, plot, start, table in self.tables():
            self.judged(lambda rows: judge(plot, start, rows), (), -1)
            self.judged(lambda rows: judge(plot, start, rows), table[1:] + (((0, ("", "", "b")), 9),), -1)

    def test_bad_worlds(self):
        for judge, plot, _, table in self.tables():
            for start in BAD_WORLDS:
                self.refused(BadWorld(start), judge, plot, start, table)

    def test_more_standings_than_a_verdict_can_have(self):
        plot, start = many_plot_standings(11)
        rows = [((k, start), 9) for k in range(30)]
        self.assertEqual([judge(plot, start, rows) for judge in JUDGES], [29, 29, 29])
