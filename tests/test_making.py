from shownempty.craft import Craft
from shownempty.errors import BadTimes, BadWorld, NoStanding, TooMany
from shownempty.making import Making
from shownempty.plotlines import read_plot
from shownempty.plots import Plot
from tests.acthelp import some_plots
from tests.helpers import NO_INTEGERS, NO_STANDINGS, Case, as_lists, coin_craft, spoil
from tests.test_standings import BAD_WORLDS, many_standings

COIN = ("a", "", "")
PASSED = ("", "a", "")
BOTH = ("a", "", "a")
LOADED = ("a", "a", "")
# The pass is seen; the guests may have the hand opened, which shall be empty, or full. At last it shall be full.
LINES = ("show pass . 1", "ask 2 3", "show open - 4", "show open a 4", "end ?,?,?")


def many_plot_standings(nods):
    """A plot and a start with 590 standings and one for each nod ahead."""
    act, start = many_standings(nods)
    cues = [("ask",) + cue[1:] if cue[0] == "ask" else ("show", cue[1], (((), k + 1),)) for k, cue in enumerate(act)]
    return Plot(act.craft, cues), start


def standings_of(plot, start):
    """All standings of the plot."""
    found = {(0, start)}
    todo = [(0, start)]
    while todo:
        standing = todo.pop()
        ways = "01" if plot[standing[0]][0] == "ask" else plot.options(standing)
        for behind in [plot.behind(standing, way) for way in ways]:
            if behind not in found:
                found.add(behind)
                todo.append(behind)
    return sorted(found)


def price_of(plot, standing, option):
    return plot.craft.price_of(plot[standing[0]][1], option[0])


def forced_of(plot, standing, times, known):
    """What the guests can force as the document tells it."""
    if (standing, times) not in known:
        what = plot[standing[0]][0]
        if plot.is_broken(standing):
            told = None
        elif what == "end" or what == "ask" and times == 0:
            told = 0
        elif what == "show":
            found = [(price_of(plot, standing, option), forced_of(plot, plot.behind(standing, option), times, known))
                     for option in plot.options(standing)]
            told = min([price + forced for price, forced in found if forced is not None], default=None)
        else:
            found = [forced_of(plot, plot.behind(standing, answer), times - 1, known) for answer in "01"]
            told = None if None in found else max(found)
        known[standing, times] = told
    return known[standing, times]


class TestMaking(Case):

    def setUp(self):
        self.plot = read_plot(coin_craft(), LINES)
        self.making = Making(self.plot, BOTH)

    def test_values(self):
        # An empty hand must be kept so (2); then the coin of the pocket must be loaded (5) if it shall be full.
        self.assertIs(bool(self.making), True)
        self.assertEqual(self.making.least, 5 + 2)
        table = (((0, BOTH), 7), ((1, ("", "a", "a")), -2), ((1, BOTH), 5), ((2, ("", "a", "a")), -2), ((2, BOTH), 0),
                 ((3, ("", "a", "a")), 0), ((3, BOTH), 5), ((4, ("", "a", "a")), 0), ((4, ("", "aa", "")), 0),
                 ((4, BOTH), 0), ((4, LOADED), 0))
        self.assertEqual(set(self.making.table) <= set(table), True)
        self.assertEqual(self.making.table, tuple(sorted(self.making.table)))
        self.assertEqual((len(self.making), list(self.making)), (len(self.making.table), list(self.making.table)))
        self.assert_plain(self.making.table)

    def test_lost(self):
        making = Making(self.plot, COIN)
        self.assertIs(bool(making), False)
        self.assertEqual((making.least, making.delay((0, COIN)), making.method((0, COIN))), (-2, 1, None))
        self.assertEqual([making.delay(standing) for standing in ((1, COIN), (3, COIN), (2, COIN))], [1, 0, None])

    def test_methods(self):
        self.assertEqual(self.making.method((0, BOTH)), ("keep", 0))
        self.assertEqual(self.making.method((2, BOTH)), ("", 0))
        self.assertEqual(self.making.method([3, list(BOTH)]), ("load", 0))
        self.assertIsNone(self.making.method((1, BOTH)))
        self.assertIsNone(self.making.method((4, BOTH)))
        self.assertIsNone(self.making.method((2, ("", "a", "a"))))
        self.assert_plain(self.making.method((3, BOTH)))

    def test_the_first_option_that_reaches_the_value(self):
        # Two outs fit, and two manners have the same price.
        sleights = (("slip", "nod", (), 2, ()), ("draw", "nod", (), 2, ()))
        craft = Craft(2, (("nod", (("a", 0, 1),), ()),), sleights)
        plot = Plot(craft, (("show", "nod", (((), 2), ((), 1))), ("end", ("", None)), ("end", ("a", None))))
        making = Making(plot, ("a", ""))
        self.assertEqual((making.least, making.method((0, ("a", "")))), (0, ("", 1)))
        plot = Plot(craft, (("show", "nod", (((), 2), ((), 1))), ("end", ("a", None)), ("end", ("a", None))))
        self.assertEqual(Making(plot, ("a", "")).method((0, ("a", ""))), ("slip", 0))

    def test_no_bound(self):
        # The pass must be seen again and again, and each time something must be kept.
        plot = read_plot(coin_craft(), ("show pass . 1", "ask 0 2", "end a,?,?"))
        making = Making(plot, COIN)
        self.assertEqual((bool(making), making.least), (True, -1))
        self.assertEqual([making[standing] for standing in ((0, COIN), (1, COIN), (2, COIN))], [-1, -1, 0])
        self.assertEqual(making.method((0, COIN)), ("keep", 0))
        self.assertEqual([making.forced((0, COIN), times) for times in (0, 1, 2, 10, 999, 1000)],
                         [0, 2, 4, 20, 1998, 2000])
        self.assertEqual([making.forced((1, COIN), times) for times in (1000, 1, 0)], [1998, 0, 0])

    def test_no_bound_though_there_are_cheap_ways(self):
        # To stay sound without a bound, the first option that leads to a sound standing is taken.
        craft = Craft(2, (("nod", (), ()), ("turn", (("a", 0, 1),), ())),
                      (("slip", "turn", (), 3, ()), ("grip", "nod", (), 9, ())))
        plot = Plot(craft, (("show", "turn", (((), 1),)), ("show", "nod", (((), 2), ((), 3))), ("ask", 0, 0),
                            ("end", ("a", ""))))
        making = Making(plot, ("a", ""))
        self.assertEqual((making.least, making.method((0, ("a", "")))), (3, ("slip", 0)))
        plot = Plot(craft, (("show", "turn", (((), 1),)), ("show", "nod", (((), 2),)), ("ask", 0, 0)))
        making = Making(plot, ("a", ""))
        self.assertEqual((making.least, making.method((0, ("a", "")))), (-1, ("", 0)))
        self.assertEqual((making[0, ("", "a")], making.method((0, ("", "a")))), (-1, ("slip", 0)))

    def test_values_of_what_cannot_be_picked_are_no_prices(self):
        # Behind the dearer ways there is no bound, or a loss: what is told for these (-1, -2) adds up to the value.
        craft = Craft(2, (("nod", (("z", 0, 1),), ()),), (("four", "nod", (), 4, ()), ("three", "nod", (), 3, ()),
                                                        ("two", "nod", (), 2, ())))
        plot = Plot(craft, (("show", "nod", (((), 1), ((), 4), ((), 3))), ("show", "nod", (((), 2),)), ("ask", 1, 1),
                            ("end", ("a", "")), ("end", ("", "a"))))
        making = Making(plot, ("a", ""))
        self.assertEqual([value for _, value in making], [2, -1, -1, 0, -2])
        self.assertEqual(making.method((0, ("a", ""))), ("two", 2))

    def test_loops_that_cost_nothing(self):
        plot = read_plot(coin_craft(), ("show open - 1", "ask 0 2", "show pass . 3", "end ?,?,?"))
        making = Making(plot, COIN)
        self.assertEqual((making.least, making[2, COIN], making.forced((0, COIN), 1000)), (0, 0, 0))

    def test_the_guests_go_the_dearest_way(self):
        # Each of the two passes can be asked for, in whatever order, and one of them is dear.
        plot = read_plot(coin_craft(), ("ask 1 2", "show pass . 3", "show open a 3", "ask 4 5", "show open a 6",
                                        "show reach a 6", "end ?,?,?"))
        making = Making(plot, BOTH)
        self.assertEqual([making.forced((0, BOTH), times) for times in range(4)], [0, 5, 7, 7])
        self.assertEqual(making.least, 7)

    def test_delays(self):
        # Behind each answer a coin goes over; when none is left, the plot is broken.
        plot = Plot(coin_craft(), (("show", "pass", (((), 1),)), ("ask", 0, 2), ("end", (None, None, None))))
        making = Making(Plot(coin_craft().without("keep"), plot.cues), ("aaa", "", ""))
        told = {standing: making.delay(standing) for standing, _ in making}
        self.assertEqual([told[0, world] for world in (("aaa", "", ""), ("aa", "a", ""), ("", "aaa", ""))], [3, 2, 0])
        self.assertEqual([told[1, world] for world in (("aa", "a", ""), ("", "aaa", ""))], [3, 1])
        self.assertEqual([told[2, world] for world in (("aa", "a", ""), ("", "aaa", ""))], [None, None])
        self.assertEqual([making.forced((0, ("aaa", "", "")), times) for times in range(5)], [0, 0, 0, None, None])

    def test_the_conjuror_picks_the_greatest_delay(self):
        craft = Craft(2, (("nod", (), ()),))
        plot = Plot(craft, (("show", "nod", (((), 1), ((), 2), ((), 4))), ("end", ("z", None)), ("ask", 3, 3),
                            ("end", ("z", None)), ("ask", 2, 5), ("end", (None, None))))
        making = Making(plot, ("", ""))
        self.assertEqual([making.delay((k, ("", ""))) for k in range(6)], [2, 0, 1, 0, 2, None])

    def test_a_broken_end_at_once(self):
        making = Making(Plot(coin_craft(), (("end", PASSED),)), COIN)
        self.assertEqual((bool(making), making.least, making.table, making.delay((0, COIN))),
                         (False, -2, (((0, COIN), -2),), 0))
        self.assertEqual([making.forced((0, COIN), times) for times in (0, 1000)], [None, None])
        self.assertEqual(Making(Plot(coin_craft(), (("end", COIN),)), COIN).table, (((0, COIN), 0),))

    def test_attributes(self):
        start = list(BOTH)
        making = Making(start=start, plot=self.plot)
        spoil(start)
        self.assertIs(making.plot, self.plot)
        self.assertEqual(making.start, BOTH)

    def test_looked_up(self):
        for standing, value in self.making:
            self.assertEqual(self.making[standing], value)
            self.assertEqual(self.making[as_lists(standing)], value)
        for thing in NO_STANDINGS + ((0, COIN), (5, BOTH), (2, PASSED), -1, slice(0, 1)):
            self.refused(NoStanding(thing), lambda: self.making[thing])
            self.refused(NoStanding(thing), self.making.delay, thing)
            self.refused(NoStanding(thing), self.making.forced, thing, None)
            self.refused(NoStanding(thing), self.making.method, thing)

    def test_bad_times(self):
        for times in NO_INTEGERS + (-1, 1001, 10 ** 39):
            self.refused(BadTimes(times), self.making.forced, (0, BOTH), times)
        self.assertEqual([self.making.forced((0, BOTH), times) for times in (0, 1, 1000)], [2 - 2, 7, 7])

    def test_600_and_601(self):
        making = Making(*many_plot_standings(10))
        self.assertEqual((len(making), making.least, making.delay((0, making.start))), (600, -2, 9))
        self.refused(TooMany("standing"), Making, *many_plot_standings(11))

    def test_bad_worlds(self):
        for start in BAD_WORLDS:
            self.refused(BadWorld(start), Making, self.plot, start)
        self.refused(BadWorld(COIN), Making, many_plot_standings(11)[0], COIN)

    def test_many_plots(self):
        told = set()
        for plot, start, _ in some_plots(700):
            making = Making(plot, start)
            self.assertEqual([standing for standing, _ in making], standings_of(plot, start))
            self.assertEqual(making.least, making[0, start])
            self.assertIs(bool(making), making.least != -2)
            known = {}
            for standing, value in making:
                self.one(making, standing, value, known)
                told.add(min(value, 3))
        self.assertEqual(told, {-2, -1, 0, 1, 2, 3})

    def one(self, making, standing, value, known):
        """What is told of the standing agrees with what the guests can force."""
        forced = [forced_of(making.plot, standing, times, known) for times in range(60)]
        self.assertEqual([making.forced(standing, times) for times in (0, 1, 2, 7)], [forced[k] for k in (0, 1, 2, 7)])
        lost = [times for times, price in enumerate(forced) if price is None]
        self.assertEqual(making.delay(standing), lost[0] if lost else None)
        if lost:
            self.assertEqual(value, -2)
        elif forced[-1] == forced[30]:
            self.assertEqual(value, forced[-1])
        else:
            self.assertEqual(value, -1)
        self.picked(making, standing, value)

    def picked(self, making, standing, value):
        """The method is the first option that the document lets it be."""
        plot, good = making.plot, []
        for option in plot.options(standing):
            after = making[plot.behind(standing, option)]
            if value >= 0 and after >= 0 and value == after + price_of(plot, standing, option):
                good.append(option)
            if value == -1 and after != -2:
                good.append(option)
        self.assertEqual(making.method(standing), good[0] if good else None)
        self.assertEqual(making.method(standing) is None, value == -2 or plot[standing[0]][0] != "show")

    def test_high_prices(self):
        # Each of eight things goes over for 9, or stays for 7; the plot can only end when all are gone.
        craft = Craft(2, (("pass", (("b", 0, 1),), ()),), (("dear", "pass", (("a", 0, 1),), 9, ()),
                                                         ("stay", "pass", (), 7, ())))
        start = ("aaaaaaaa", "")
        plot = Plot(craft, (("show", "pass", (((), 1),)), ("ask", 2, 2), ("show", "pass", (((), 3), ((), 4))),
                            ("ask", 2, 2), ("end", ("", None))))
        making = Making(plot, start)
        self.assertEqual((making.least, making.method((0, start))), (72, ("dear", 0)))
        self.assertEqual([making[2, ("a" * (8 - k), "a" * k)] for k in range(9)], [72, 63, 54, 45, 36, 27, 18, 9, 7])
        self.assertEqual([making.method((2, ("a" * (8 - k), "a" * k))) for k in (6, 7, 8)],
                         [("dear", 0), ("dear", 1), ("stay", 1)])
        for times in range(9):
            self.assertEqual(making.forced((0, start), times), forced_of(plot, (0, start), times, {}))
