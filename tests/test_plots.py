import itertools

from shownempty.craft import Craft
from shownempty.errors import BadCue, NoCue, NoOption, NoStanding, TooMany
from shownempty.plots import Plot
from tests.helpers import NO_INTEGERS, NO_STRINGS, NO_TUPLES, Case, EqualToAll, as_lists, coin_act, coin_craft, spoil

ANY = (None, None, None)
END = ("end", ANY)
COIN = ("a", "", "")
LOADED = ("a", "", "a")
# A pass shall be seen, as often as the guests like; then the right hand, full or empty.
CUES = (
    ("show", "pass", (((), 1),)),
    ("ask", 2, 0),
    ("show", "open", ((("a",), 3), (("",), 4), ((None,), 4))),
    END,
    ("end", ("a", "", None)),
)


def coin_plot():
    return Plot(coin_craft(), CUES)


class TestMade(Case):

    def setUp(self):
        self.craft = coin_craft()

    def test_attributes(self):
        plot = Plot(self.craft, CUES)
        self.assertIs(plot.craft, self.craft)
        self.assertEqual(plot.cues, CUES)
        self.assertEqual(Plot(cues=CUES, craft=self.craft), plot)

    def test_lists_are_kept_as_tuples(self):
        cues = as_lists(CUES)
        plot = Plot(self.craft, cues)
        spoil(cues)
        self.assertEqual(plot.cues, CUES)
        self.assert_plain(plot.cues)

    def test_no_cues(self):
        for cues in NO_TUPLES + ((), []):
            self.refused(BadCue(-1), Plot, self.craft, cues)

    def test_things_that_are_no_cues(self):
        others = [("do", "pass", ""), ("go", 1), ("glance", 0, "a", 1), ("end",), ("stop",), ("", 1), (None,),
                  (["end"],)]
        for cue in list(NO_TUPLES) + others + [()]:
            self.refused(BadCue(0), Plot, self.craft, (cue, END))
            self.refused(BadCue(1), Plot, self.craft, (END, cue, cue))

    def test_first_words(self):
        for word in NO_STRINGS + ("", "do", "go", "glance", "stop", "Show", "ends"):
            for rest in (("pass", (((), 1),)), (0, 0), (ANY,)):
                self.refused(BadCue(0), Plot, self.craft, ((word,) + rest, END))

    def test_60_and_61(self):
        self.assertEqual(len(Plot(self.craft, (END,) * 60)), 60)
        self.refused(TooMany("cue"), Plot, self.craft, (END,) * 61)

    def test_a_bad_cue_goes_ahead_of_too_many(self):
        self.refused(BadCue(60), Plot, self.craft, (END,) * 60 + (("end",),))
        late = (("show", "pass", (((), 60),)), ("ask", 60, 60))
        self.refused(TooMany("cue"), Plot, self.craft, late + (END,) * 59)


class TestCues(Case):

    def setUp(self):
        self.craft = coin_craft()

    def good(self, *cues):
        self.assertEqual(Plot(self.craft, cues).cues, cues)

    def bad(self, number, *cues):
        self.refused(BadCue(number), Plot, self.craft, cues)

    def test_gestures_of_a_show(self):
        self.good(("show", "pass", (((), 1),)), ("show", "open", (((None,), 2),)), END)
        for gesture in NO_STRINGS + ("", "keep", "load", "opens"):
            self.bad(0, ("show", gesture, (((), 1),)), END)

    def test_numbers_of_outs(self):
        out = (("a",), 1)
        for many in range(1, 5):
            self.good(("show", "open", (out,) * many), END)
        for outs in NO_TUPLES + ((), (out,) * 5, (out,) * 60):
            self.bad(0, ("show", "open", outs), END)

    def test_forms_of_outs(self):
        for out in NO_TUPLES + ((), (("a",),), (("a",), 1, 1), (1, ("a",))):
            self.bad(0, ("show", "open", (out,)), END)
            self.bad(0, ("show", "open", ((("a",), 1), out)), END)
            self.bad(0, ("show", "open", ((("a",), 1),) * 3 + (out,)), END)

    def test_sights(self):
        for sight in ((None,), ("",), ("aab",), ("abcdefgh",), ["a"]):
            self.assertEqual(len(Plot(self.craft, (("show", "open", ((sight, 1),)), END))), 2)
        for sight in NO_TUPLES + ((), ("a", "b"), (None, None), ("ba",), ("aaaaaaaaa",), (("a",),), (True,), (0,)):
            self.bad(0, ("show", "open", ((sight, 1),)), END)

    def test_sights_have_an_item_for_each_shown_place(self):
        craft = Craft(6, tuple([("abcdefgh"[many], (), tuple(range(many))) for many in range(7)]))
        for gesture, many in itertools.product(range(7), range(8)):
            cues = (("show", "abcdefgh"[gesture], (((None,) * many, 1),)), ("end", (None,) * 6))
            if many == gesture:
                self.assertEqual(Plot(craft, cues).cues, cues)
            else:
                self.refused(BadCue(0), Plot, craft, cues)
        self.refused(BadCue(0), Plot, craft, (("show", "c", ((("aaaaa", "aaaa"), 1),)), ("end", (None,) * 6)))

    def test_targets(self):
        self.good(END, ("show", "pass", (((), 2), ((), 3), ((), 2))), END, END)
        for target in NO_INTEGERS + (-1, 0, 1, 3, 10 ** 39):
            self.bad(1, END, ("show", "pass", (((), target),)), END)
            self.bad(1, END, ("show", "pass", (((), 2), ((), target))), END)

    def test_show_is_never_the_last(self):
        self.bad(0, ("show", "pass", (((), 0),)))
        self.bad(0, ("show", "pass", (((), 1),)))
        self.bad(1, END, ("show", "pass", (((), 2),)))

    def test_lengths_of_a_show(self):
        self.bad(0, ("show",), END)
        self.bad(0, ("show", "pass"), END)
        self.bad(0, ("show", "pass", (((), 1),), 1), END)

    def test_ask(self):
        self.good(("ask", 0, 0))
        self.good(("ask", 2, 1), ("ask", 0, 2), ("ask", 1, 1))
        for number in NO_INTEGERS + (-1, 2, 60, 10 ** 39):
            self.bad(1, END, ("ask", number, 0))
            self.bad(1, END, ("ask", 0, number))
        self.bad(0, ("ask", 0))
        self.bad(0, ("ask", 0, 0, 0))

    def test_wishes(self):
        for wish in (ANY, ("", "", ""), ("aab", None, "c"), ("abcdefgh", "", None), ["a", None, ""]):
            self.assertEqual(len(Plot(self.craft, (("end", wish),))), 1)
        bad = ((), (None, None), (None,) * 4, ("ba", None, None), ("aaaaa", "aaaa", None), ("a", "b", True),
               (0, "", ""))
        for wish in NO_TUPLES + bad:
            self.bad(0, ("end", wish))
        self.bad(0, ("end",))
        self.bad(0, ("end", ANY, ANY))

    def test_the_wish_has_the_size_of_the_craft(self):
        for size in range(2, 7):
            craft = Craft(size, (("a", (), ()),))
            self.assertEqual(Plot(craft, (("end", (None,) * size),))[0], ("end", (None,) * size))
            self.refused(BadCue(0), Plot, craft, (("end", (None,) * (size - 1)),))
            self.refused(BadCue(0), Plot, craft, (("end", (None,) * (size + 1)),))


class TestLookedAt(Case):

    def setUp(self):
        self.plot = coin_plot()

    def test_length_iteration_and_cues_by_number(self):
        self.assertEqual((len(self.plot), tuple(self.plot)), (5, CUES))
        for k, cue in enumerate(CUES):
            self.assertEqual(self.plot[k], cue)

    def test_no_cue(self):
        for number in NO_INTEGERS + (-1, 5, 10 ** 39, slice(0, 1), (0,)):
            self.refused(NoCue(number), lambda: self.plot[number])

    def test_equal(self):
        self.assertIs(self.plot == Plot(coin_craft(), as_lists(CUES)), True)
        self.assertIs(self.plot != Plot(coin_craft(), CUES), False)
        self.assertIs(self.plot == Plot(coin_craft(), CUES[:4] + (END,)), False)
        self.assertIs(self.plot == Plot(coin_craft().without("load"), CUES), False)

    def test_equal_with_other_kinds(self):
        for thing in (None, 0, "", CUES, self.plot.craft, coin_act(), EqualToAll()):
            self.assertIs(self.plot == thing, False)
            self.assertIs(thing == self.plot, isinstance(thing, EqualToAll))


class TestOptions(Case):

    def setUp(self):
        self.plot = coin_plot()

    def test_in_the_order_of_manners_and_outs(self):
        self.assertEqual(self.plot.options((0, COIN)), (("", 0), ("keep", 0)))
        self.assertEqual(self.plot.options((2, COIN)), (("", 1), ("", 2)))
        self.assertEqual(self.plot.options((2, LOADED)), (("", 1), ("", 2), ("load", 0), ("load", 2)))
        self.assertEqual(self.plot.options((2, ("", "a", "a"))), (("", 0), ("", 2), ("load", 2)))

    def test_the_order_of_the_craft(self):
        sleights = (("z", "nod", (), 1, ()), ("b", "nod", (("*", 0, 1),), 1, ()), ("nod", "nod", (), 1, ()))
        craft = Craft(2, (("nod", (), (0,)),), sleights)
        plot = Plot(craft, (("show", "nod", (((None,), 1), (("a",), 1))), ("end", ("", ""))))
        options = (("", 0), ("", 1), ("z", 0), ("z", 1), ("b", 0), ("nod", 0), ("nod", 1))
        self.assertEqual(plot.options((0, ("a", ""))), options)

    def test_deeds_that_cannot_be_done(self):
        self.assertEqual(self.plot.options((0, ("", "a", "a"))), (("keep", 0),))
        plot = Plot(coin_craft().without("keep"), CUES)
        self.assertEqual(plot.options((0, ("", "a", "a"))), ())

    def test_the_sight_is_seen_behind_the_stroke(self):
        craft = Craft(2, (("turn", (("~", 0, 1),), (0, 1)),))
        plot = Plot(craft, (("show", "turn", ((("a", ""), 1), (("", "a"), 1))), ("end", ("", ""))))
        self.assertEqual(plot.options((0, ("a", ""))), (("", 1),))
        self.assertEqual(plot.options((0, ("", "a"))), (("", 0),))

    def test_none_but_at_a_show(self):
        for number in (1, 3, 4):
            self.assertEqual(self.plot.options((number, COIN)), ())

    def test_four_outs(self):
        outs = (((None,), 1), (("",), 2), (("a",), 3), ((None,), 4))
        plot = Plot(coin_craft(), (("show", "open", outs),) + (END,) * 4)
        self.assertEqual(plot.options((0, COIN)), (("", 0), ("", 1), ("", 3)))
        for out, target in ((0, 1), (1, 2), (3, 4)):
            self.assertEqual(plot.behind((0, COIN), ("", out)), (target, COIN))

    def test_lists(self):
        standing = [2, list(LOADED)]
        self.assertEqual(self.plot.options(standing), self.plot.options((2, LOADED)))
        self.assert_plain(self.plot.options(standing))
        self.assertEqual(standing, [2, list(LOADED)])


class TestBehind(Case):

    def setUp(self):
        self.plot = coin_plot()

    def test_options(self):
        self.assertEqual(self.plot.behind((0, COIN), ("", 0)), (1, ("", "a", "")))
        self.assertEqual(self.plot.behind((0, COIN), ("keep", 0)), (1, COIN))
        self.assertEqual(self.plot.behind((2, LOADED), ("load", 0)), (3, ("a", "a", "")))
        self.assertEqual(self.plot.behind((2, LOADED), ("load", 2)), (4, ("a", "a", "")))
        self.assertEqual(self.plot.behind((2, LOADED), ("", 1)), (4, LOADED))

    def test_answers(self):
        self.assertEqual(self.plot.behind((1, COIN), "0"), (2, COIN))
        self.assertEqual(self.plot.behind((1, COIN), "1"), (0, COIN))
        plot = Plot(coin_craft(), (("ask", 0, 0),))
        self.assertEqual((plot.behind((0, COIN), "0"), plot.behind((0, COIN), "1")), ((0, COIN), (0, COIN)))

    def test_lists(self):
        behind = self.plot.behind([2, list(LOADED)], ["load", 0])
        self.assertEqual(behind, (3, ("a", "a", "")))
        self.assert_plain(behind)
        self.assert_plain(self.plot.behind([1, list(COIN)], "0"))

    def test_no_options(self):
        things = [("", 0), ("", 3), ("", -1), ("", 10 ** 39), ("load", 0), ("keep", 1), ("pass", 1), ("open", 1)]
        things.extend([(thing, 1) for thing in NO_STRINGS] + [("", thing) for thing in NO_INTEGERS])
        things.extend([("", True), ["", True], (None, 1), (0, 1), (True, 1), (["", 1], 1), ("",), ("", 1, 1), (1, "")])
        for thing in things + ["0", "1", "", 0, 1] + list(NO_TUPLES):
            self.refused(NoOption(thing), self.plot.behind, (2, COIN), thing)
        self.refused(NoOption(("", 0)), self.plot.behind, (0, ("", "", "")), ("", 0))

    def test_no_answers(self):
        for thing in NO_STRINGS + ("", "2", "00", "01", " 0", ("", 0), ("0",), ["0"]):
            self.refused(NoOption(thing), self.plot.behind, (1, COIN), thing)

    def test_nothing_behind_an_end(self):
        for thing in ("0", "1", ("", 0), None):
            self.refused(NoOption(thing), self.plot.behind, (3, COIN), thing)

    def test_each_option_leads_to_a_standing(self):
        worlds = (COIN, LOADED, ("", "a", "a"), ("aa", "b", "ac"))
        for number, world in itertools.product((0, 2), worlds):
            for manner, out in self.plot.options((number, world)):
                _, gesture, outs = CUES[number]
                behind, sight = self.plot.craft.stroke(world, gesture, manner)
                self.assertEqual(self.plot.behind((number, world), (manner, out)), (outs[out][1], behind))
                self.assertTrue(all(item in (None, word) for item, word in zip(outs[out][0], sight)))


class TestBroken(Case):

    def setUp(self):
        self.plot = coin_plot()

    def test_shows(self):
        self.assertIs(self.plot.is_broken((0, COIN)), False)
        self.assertIs(Plot(coin_craft().without("keep"), CUES).is_broken((0, ("", "a", ""))), True)
        plot = Plot(coin_craft(), (("show", "open", ((("a",), 1),)), END))
        self.assertIs(plot.is_broken((0, COIN)), True)
        self.assertIs(plot.is_broken((0, LOADED)), False)

    def test_ends(self):
        for world in (COIN, LOADED, ("", "", "")):
            self.assertIs(self.plot.is_broken((3, world)), False)
        for world in (COIN, LOADED):
            self.assertIs(self.plot.is_broken((4, world)), False)
        for world in (("", "", ""), ("a", "a", ""), ("aa", "", "")):
            self.assertIs(self.plot.is_broken((4, world)), True)

    def test_asks(self):
        self.assertIs(self.plot.is_broken((1, ("", "", ""))), False)

    def test_lists(self):
        self.assertIs(self.plot.is_broken([4, list(COIN)]), False)
        self.assertIs(Plot(coin_craft(), as_lists(CUES)).is_broken([4, ["", "", ""]]), True)
        self.assertIs(Plot(coin_craft(), as_lists(CUES)).is_broken([4, ["a", "", ""]]), False)


class TestNoStanding(Case):

    def test_first_of_all(self):
        plot = coin_plot()
        worlds = (("", ""), ("",) * 4, ["ba", "", ""], (True, "", ""), ("a" * 9, "", ""), ("ab", "a", None))
        things = [(0, world) for world in worlds + NO_TUPLES]
        things.extend([[number, COIN] for number in NO_INTEGERS + (-1, 5)])
        things.extend([(), (0,), (0, COIN, 0), "0a", COIN])
        for thing in tuple(things) + NO_TUPLES:
            self.refused(NoStanding(thing), plot.options, thing)
            self.refused(NoStanding(thing), plot.is_broken, thing)
            self.refused(NoStanding(thing), plot.behind, thing, None)
