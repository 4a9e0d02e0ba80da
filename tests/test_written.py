from shownempty.acts import Act
from shownempty.bounds import Bounded
from shownempty.craft import Craft
from shownempty.errors import BadWorld, Lost, TooMany
from shownempty.making import Making
from shownempty.plays import Play
from shownempty.plotlines import read_plot
from shownempty.plots import Plot
from shownempty.smooth import Smooth
from shownempty.standings import Standings
from shownempty.worlds import fits
from shownempty.written import written
from tests.acthelp import rows_of, some_plots
from tests.helpers import Case, coin_craft
from tests.test_making import LINES, many_plot_standings
from tests.test_standings import BAD_WORLDS

COIN = ("a", "", "")
BOTH = ("a", "", "a")
END = ("end",)


def forked(ahead, behind):
    """A plot and a start: nods, one standing each; a thing goes over or stays; then nods, in two worlds each."""
    craft = Craft(2, (("nod", (), ()), ("pass", (("a", 0, 1),), ())))
    cues = [("show", "nod", (((), k + 1),)) for k in range(ahead)]
    cues.extend([("ask", ahead + 1, ahead + 2), ("show", "pass", (((), ahead + 2),))])
    cues.extend([("show", "nod", (((), ahead + 3 + k),)) for k in range(behind)])
    return Plot(craft, cues + [("end", (None, None))]), ("a", "")


class TestWritten(Case):

    def setUp(self):
        self.plot = read_plot(coin_craft(), LINES)

    def test_written(self):
        # The pass is kept; behind the opened hand there are two standings at the end, in their order.
        act = written(self.plot, BOTH)
        self.assertIsInstance(act, Act)
        self.assertEqual(act.craft, coin_craft())
        self.assertEqual(act.cues, (("do", "pass", "keep"), ("ask", 2, 4), ("do", "open", ""), ("go", 6),
                                    ("do", "open", "load"), ("go", 7), END, END))
        self.assert_plain(act.cues)

    def test_a_target_that_comes_next_needs_no_go(self):
        plot = read_plot(coin_craft(), ("show pass . 1", "show open a 2", "end ?,a,?"))
        self.assertEqual(written(plot, COIN).cues, (("do", "pass", ""), ("do", "open", ""), END))
        plot = read_plot(coin_craft(), ("show pass . 2", "end -,-,-", "ask 0 3", "show open a 4", "end ?,a,?"))
        self.assertEqual(written(Plot(plot.craft, plot.cues[:2] + (("ask", 3, 3),) + plot.cues[3:]), COIN).cues,
                         (("do", "pass", ""), ("ask", 2, 2), ("do", "open", ""), END))

    def test_the_first_standing_is_ahead_of_all_others(self):
        # The world of the other standing at the first cue is less, and it comes behind the first one all the same.
        craft = Craft(2, (("turn", (("~", 0, 1),), ()),))
        plot = Plot(craft, (("show", "turn", (((), 1),)), ("ask", 0, 2), ("end", (None, None))))
        self.assertEqual(written(plot, ("a", "")).cues,
                         (("do", "turn", ""), ("go", 4), ("do", "turn", ""), ("go", 5), ("ask", 2, 6), ("ask", 0, 7),
                          END, END))
        self.agrees(plot, ("a", ""), written(plot, ("a", "")))

    def test_only_what_the_method_leads_to(self):
        # By the honest pass there would be more standings.
        self.assertLess(len(Standings(written(self.plot, BOTH), BOTH)), len(Making(self.plot, BOTH)))

    def test_the_first_option_of_all_that_reach_the_value(self):
        craft = Craft(2, (("nod", (("a", 0, 1),), ()),), (("slip", "nod", (), 2, ()), ("draw", "nod", (), 2, ())))
        plot = Plot(craft, (("show", "nod", (((), 2), ((), 1))), ("end", ("a", None)), ("end", ("a", None))))
        self.assertEqual(written(plot, ("a", "")).cues, (("do", "nod", "slip"), END))

    def test_no_bound(self):
        plot = read_plot(coin_craft(), ("show pass . 1", "ask 0 2", "end a,?,?"))
        act = written(plot, COIN)
        self.assertEqual(act.cues, (("do", "pass", "keep"), ("ask", 0, 2), END))
        self.assertEqual(Bounded(act, COIN).bound, None)

    def test_lost(self):
        start = list(COIN)
        self.refused(Lost(start), written, self.plot, start)
        self.refused(Lost(COIN), written, self.plot, COIN)

    def test_an_end_at_once(self):
        plot = Plot(coin_craft(), (("end", COIN),))
        self.assertEqual(written(plot, list(COIN)).cues, (END,))
        self.refused(Lost(BOTH), written, plot, BOTH)

    def test_60_and_61_cues(self):
        for ahead, behind, cues in ((16, 10, 60), (17, 10, 61), (0, 14, 60), (1, 14, 61), (0, 1, 8)):
            plot, start = forked(ahead, behind)
            self.assertEqual(self.cues_of(plot, start), cues)
            if cues <= 60:
                act = written(plot, start)
                self.assertEqual(len(act), cues)
                self.agrees(plot, start, act)
            else:
                self.refused(TooMany("cue"), written, plot, start)

    def cues_of(self, plot, start):
        """How many cues are written, counted by the plot itself."""
        making = Making(plot, start)
        todo, found = [(0, start)], {(0, start)}
        while todo:
            standing = todo.pop()
            what = plot[standing[0]][0]
            ways = "01" if what == "ask" else [making.method(standing)] if what == "show" else []
            for behind in [plot.behind(standing, way) for way in ways]:
                if behind not in found:
                    found.add(behind)
                    todo.append(behind)
        order = [(0, start)] + sorted(found - {(0, start)})
        gos = [k for k, standing in enumerate(order) if plot[standing[0]][0] == "show"
               and plot.behind(standing, making.method(standing)) != (order + [None])[k + 1]]
        return len(order) + len(gos)

    def test_errors_in_their_order(self):
        plot, start = many_plot_standings(11)
        self.refused(TooMany("standing"), written, plot, start)
        for world in BAD_WORLDS:
            self.refused(BadWorld(world), written, self.plot, world)
        self.refused(BadWorld(COIN), written, plot, COIN)
        # 600 standings, all of them lost.
        plot, start = many_plot_standings(10)
        self.refused(Lost(start), written, plot, start)

    def test_many_plots(self):
        told = set()
        for plot, start, _ in some_plots(500, 63):
            making = Making(plot, start)
            if not making:
                self.refused(Lost(start), written, plot, start)
                continue
            cues = self.cues_of(plot, start)
            if cues > 60:
                self.refused(TooMany("cue"), written, plot, start)
                continue
            act = written(plot, start)
            self.assertEqual(len(act), cues)
            self.agrees(plot, start, act)
            told.add(min(making.least, 2))
        self.assertEqual(told, {-1, 0, 1, 2})

    def agrees(self, plot, start, act):
        """The act does the plot: for all answers, and by its own plays."""
        making = Making(plot, start)
        self.assertIs(bool(Smooth(act, start)), True)
        self.assertEqual(Bounded(act, start).bound, making.least if making.least >= 0 else None)
        for row in rows_of(4):
            self.plays(plot, making, act, start, row)

    def plays(self, plot, making, act, start, row):
        """By the answers both come to the same end, by the options of the method."""
        standing, events, price = (0, start), [], 0
        answers = list(row)
        while plot[standing[0]][0] != "end":
            if plot[standing[0]][0] == "ask":
                if not answers:
                    break
                events.append(answers[0])
                standing = plot.behind(standing, answers.pop(0))
            else:
                manner, out = making.method(standing)
                gesture, outs = plot[standing[0]][1:]
                behind, sight = plot.craft.stroke(standing[1], gesture, manner)
                self.assertTrue(fits(sight, outs[out][0]))
                events.append((gesture, sight))
                price += plot.craft.price_of(gesture, manner)
                standing = (outs[out][1], behind)
        if not answers:
            play = Play(act, start, row)
            self.assertEqual((play.shown, play.price), ((tuple(events), plot[standing[0]][0]), price))
            self.assertEqual(play.last[1], standing[1])
            self.assertTrue(play.price <= making.least or making.least == -1)
            self.assertTrue(play.rest == "ask" or fits(standing[1], plot[standing[0]][1]))
