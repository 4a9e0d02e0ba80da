import itertools

from shownempty.craft import Craft
from shownempty.errors import BadWorld, TooMany
from shownempty.lessons import lessons
from shownempty.making import Making
from shownempty.plotlines import read_plot
from shownempty.plots import Plot
from tests.acthelp import some_plots
from tests.helpers import Case, coin_craft
from tests.test_making import LINES, many_plot_standings
from tests.test_standings import BAD_WORLDS

COIN = ("a", "", "")
PASSED = ("", "a", "")
BOTH = ("a", "", "a")


def can_be_done(plot, start, lot):
    """Whether the plot can be done from the start by who has learnt these sleights alone."""
    forgotten = [name for name in plot.craft.arts if name not in lot]
    return bool(Making(Plot(plot.craft.without(*forgotten), plot.cues), start))


def lessons_of(plot, start):
    """The least lots, by trying out all of them."""
    found = []
    for number in range(len(plot.craft.arts) + 1):
        for lot in itertools.combinations(plot.craft.arts, number):
            if can_be_done(plot, start, lot) and not any(set(small) <= set(lot) for small in found):
                found.append(lot)
    return tuple(found)


class TestLessons(Case):

    def setUp(self):
        self.plot = read_plot(coin_craft(), LINES)

    def test_lessons(self):
        # To keep the pass is not enough: the empty hand must be loaded, too.
        told = lessons(self.plot, BOTH)
        self.assertEqual(told, (("keep", "load"),))
        self.assert_plain(told)
        self.assertEqual(lessons(self.plot, list(BOTH)), told)

    def test_no_sleight_is_needed(self):
        plot = read_plot(coin_craft(), ("show pass . 1", "show open a 2", "end ?,?,?"))
        self.assertEqual(lessons(plot, COIN), ((),))
        self.assertEqual(lessons(Plot(Craft(2, (("nod", (), ()),)), (("end", ("", "")),)), ("", "")), ((),))

    def test_it_cannot_be_done(self):
        self.assertEqual(lessons(self.plot, COIN), ())
        self.assertEqual(lessons(Plot(coin_craft(), (("end", COIN),)), PASSED), ())

    def test_one_of_several_is_enough(self):
        # By two of the sleights the thing stays, by a third one it comes back.
        craft = Craft(2, (("pass", (("a", 0, 1),), ()), ("nod", (), ())),
                      (("stay", "pass", (), 1, ()), ("grip", "pass", (), 9, ()), ("away", "pass", (("~", 0, 1),), 1, ()),
                       ("back", "nod", (("a", 1, 0),), 1, ())))
        plot = Plot(craft, (("show", "pass", (((), 1),)), ("show", "nod", (((), 2),)), ("end", ("a", ""))))
        self.assertEqual(lessons(plot, ("a", "")), (("back",), ("grip",), ("stay",)))

    def test_the_order_of_the_lots(self):
        # Either "c" alone, or "a" and "b" together.
        craft = Craft(3, (("one", (), ()), ("two", (), ())),
                      (("c", "one", (("z", 0, 2),), 1, ()), ("b", "one", (("z", 0, 1),), 1, ()),
                       ("a", "two", (("z", 1, 2),), 1, ())))
        plot = Plot(craft, (("show", "one", (((), 1),)), ("show", "two", (((), 2),)), ("end", (None, None, "z"))))
        self.assertEqual(lessons(plot, ("z", "", "")), (("c",), ("a", "b")))

    def test_eight_sleights(self):
        # Each of eight passes needs a sleight of its own, at whatever price.
        letters = "abcdefgh"
        craft = Craft(2, [(name, (), ()) for name in letters],
                      [(name, name, ((name, 0, 1),), 9, ()) for name in letters[::-1]])
        cues = [("show", name, (((), k + 1),)) for k, name in enumerate(letters)] + [("end", ("", None))]
        self.assertEqual(lessons(Plot(craft, cues), (letters, "")), (tuple(letters),))
        self.assertEqual(lessons(Plot(craft, cues), ("bd", "")), (("b", "d"),))
        self.assertEqual(lessons(Plot(craft, cues), ("bdz", "")), ())

    def test_a_price_without_a_bound_is_no_reason(self):
        plot = read_plot(coin_craft(), ("show pass . 1", "ask 0 2", "end a,?,?"))
        self.assertEqual(lessons(plot, COIN), (("keep",),))

    def test_errors_in_their_order(self):
        for start in BAD_WORLDS:
            self.refused(BadWorld(start), lessons, self.plot, start)
        plot, start = many_plot_standings(11)
        self.refused(TooMany("standing"), lessons, plot, start)
        self.refused(BadWorld(COIN), lessons, plot, COIN)
        self.assertEqual(lessons(*many_plot_standings(10)), ())

    def test_the_plot_itself_has_too_many(self):
        # If the sleights are forgotten there are few standings; the plot is done without them.
        craft = Craft(2, (("nod", (), ()), ("pass", (("a", 0, 1),), ())), (("palm", "nod", (("a", 0, 1),), 1, ()),
                                                                       ("back", "nod", (("b", 0, 1),), 1, ())))
        cues = [("show", "nod", (((), k + 1),)) for k in range(57)] + [("ask", 0, 58), ("end", (None, None))]
        plot = Plot(craft, cues)
        self.assertEqual(can_be_done(plot, ("aaaabbbb", ""), ()), True)
        self.refused(TooMany("standing"), lessons, plot, ("aaaabbbb", ""))
        self.assertEqual(lessons(plot, ("ab", "")), ((),))

    def test_many_plots(self):
        told = set()
        for plot, start, _ in some_plots(500, 65):
            found = lessons(plot, start)
            self.assertEqual(found, lessons_of(plot, start))
            told.add(tuple(len(lot) for lot in found))
        self.assertLessEqual({(), (0,), (1,), (1, 1), (2,)}, told)
