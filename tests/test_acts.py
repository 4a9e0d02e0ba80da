from shownempty.acts import Act
from shownempty.craft import Craft
from shownempty.errors import BadCue, NoCue, NoStanding, TooMany, Unlike
from shownempty.plays import Play
from tests.helpers import NO_INTEGERS, NO_STRINGS, NO_TUPLES, Case, EqualToAll, as_lists, coin_act, coin_craft, spoil

END = ("end",)
KEEP = ("do", "pass", "keep")
PASS = ("do", "pass", "")
CUES = (KEEP, ("ask", 2, 0), ("do", "open", ""), END)
# Each cue of another kind: an act that looks into the pocket, and asks.
LOOKS = (("glance", 2, "a", 3), ("do", "open", ""), ("go", 4), ("do", "open", "load"), ("ask", 5, 0), END)
COIN = ("a", "", "")
LOADED = ("a", "", "a")


class TestMade(Case):

    def setUp(self):
        self.craft = coin_craft()

    def test_attributes(self):
        act = Act(self.craft, CUES)
        self.assertIs(act.craft, self.craft)
        self.assertEqual(act.cues, CUES)
        self.assertEqual(Act(cues=CUES, craft=self.craft), act)
        self.assertEqual(act, coin_act())

    def test_lists_are_kept_as_tuples(self):
        cues = as_lists(LOOKS)
        act = Act(self.craft, cues)
        self.assertEqual(cues, as_lists(LOOKS))
        spoil(cues)
        self.assertEqual(act.cues, LOOKS)
        self.assert_plain(act.cues)

    def test_no_tuple_of_at_least_one(self):
        for cues in NO_TUPLES + ((), []):
            self.refused(BadCue(-1), Act, self.craft, cues)

    def test_the_first_bad_one_is_told(self):
        self.refused(BadCue(1), Act, self.craft, (END, ("go",), ("go",)))
        self.refused(BadCue(2), Act, self.craft, [END, END, None])

    def test_no_cues(self):
        for cue in NO_TUPLES + ((), [], "end", ("END",), ("",), ("stop",), (None,), (True,), ([],), (EqualToAll(),)):
            self.refused(BadCue(0), Act, self.craft, (cue, END))

    def test_things_that_equal_all_words(self):
        for cue in CUES[:3] + LOOKS:
            self.refused(BadCue(0), Act, self.craft, ((EqualToAll(),) + cue[1:],) + (END,) * 5)

    def test_wrong_lengths(self):
        for cue in CUES[:3] + LOOKS:
            cues = [END] * 8
            cues[2] = cue[:-1]
            self.refused(BadCue(2), Act, self.craft, cues)
            cues[2] = cue + (5,)
            self.refused(BadCue(2), Act, self.craft, cues)

    def test_60_and_61(self):
        self.assertEqual(len(Act(self.craft, (END,) * 60)), 60)
        self.assertEqual(Act(self.craft, (END,) * 59 + (("ask", 59, 0),))[59], ("ask", 59, 0))
        self.refused(TooMany("cue"), Act, self.craft, (END,) * 61)
        self.refused(TooMany("cue"), Act, self.craft, (("go", 60),) + (END,) * 60)
        self.refused(BadCue(60), Act, self.craft, (END,) * 60 + (PASS,))


class TestCues(Case):

    def setUp(self):
        self.craft = coin_craft()

    def good(self, *cues):
        self.assertEqual(Act(self.craft, cues).cues, cues)

    def bad(self, number, *cues):
        self.refused(BadCue(number), Act, self.craft, cues)

    def test_do(self):
        self.good(PASS, KEEP, ("do", "open", "load"), ("do", "reach", ""), END)
        for gesture in NO_STRINGS + ("", "keep", "load", "opens"):
            self.bad(0, ("do", gesture, ""), END)
        for manner in NO_STRINGS + ("load", "pass", "-"):
            self.bad(0, ("do", "pass", manner), END)

    def test_do_is_never_the_last(self):
        self.bad(0, PASS)
        self.bad(1, END, PASS)

    def test_ask(self):
        self.good(("ask", 0, 0))
        self.good(("ask", 2, 1), ("ask", 0, 2), ("ask", 1, 1))
        for number in NO_INTEGERS + (-1, 2, 60, 10 ** 39):
            self.bad(1, END, ("ask", number, 0))
            self.bad(1, END, ("ask", 0, number))

    def test_glance(self):
        for place in range(3):
            self.good(("glance", place, "z", 1), END)
        for place in NO_INTEGERS + (-1, 3):
            self.bad(0, ("glance", place, "a", 1), END)
        for kind in NO_STRINGS + ("", "ab", "A", "*", "~", "-"):
            self.bad(0, ("glance", 0, kind, 1), END)
        for target in NO_INTEGERS + (-1, 0, 1, 3):
            self.bad(1, END, ("glance", 0, "a", target), END)
        self.good(("glance", 0, "a", 2), ("glance", 0, "b", 2), END)

    def test_glance_is_never_the_last(self):
        self.bad(0, ("glance", 0, "a", 0))
        self.bad(1, END, ("glance", 0, "a", 2))

    def test_go(self):
        self.good(END, ("go", 2), END)
        self.good(("go", 2), END, END)
        for target in NO_INTEGERS + (-1, 0, 1, 3):
            self.bad(1, END, ("go", target), END)
        self.bad(0, ("go", 1))

    def test_end(self):
        self.good(END)
        self.bad(0, ("end", 0))


class TestLookedAt(Case):

    def setUp(self):
        self.act = Act(coin_craft(), LOOKS)

    def test_length_and_iteration(self):
        self.assertEqual(len(self.act), 6)
        self.assertEqual(list(self.act), list(LOOKS))

    def test_cues_by_number(self):
        for k, cue in enumerate(LOOKS):
            self.assertEqual(self.act[k], cue)

    def test_no_cue(self):
        for number in NO_INTEGERS + (-1, 6, 10 ** 39, slice(0, 1), (0,)):
            self.refused(NoCue(number), lambda: self.act[number])

    def test_equal(self):
        self.assertIs(self.act == Act(coin_craft(), as_lists(LOOKS)), True)
        self.assertIs(self.act != Act(coin_craft(), LOOKS), False)
        self.assertIs(self.act == coin_act(), False)
        more = Craft(3, coin_craft().gestures, coin_craft().sleights + (("more", "open", (), 1, ()),))
        self.assertIs(self.act == Act(more, LOOKS), False)

    def test_equal_with_other_kinds(self):
        for thing in (None, 0, "", LOOKS, self.act.craft, EqualToAll()):
            self.assertIs(self.act == thing, False)

    def test_strokes_and_secrets(self):
        self.assertEqual((self.act.strokes, self.act.secrets), ((1, 3), (3,)))
        self.assertEqual((coin_act().strokes, coin_act().secrets), ((0, 2), (0,)))
        act = Act(coin_craft(), (END,))
        self.assertEqual((act.strokes, act.secrets), ((), ()))


class TestStandings(Case):

    def setUp(self):
        self.act = Act(coin_craft(), LOOKS)
        self.coin = Act(coin_craft(), (PASS,) + CUES[1:])

    def test_followers(self):
        self.assertEqual(self.act.followers((0, LOADED)), ((3, LOADED),))
        self.assertEqual(self.act.followers((0, COIN)), ((1, COIN),))
        self.assertEqual(self.act.followers((1, COIN)), ((2, COIN),))
        self.assertEqual(self.act.followers((2, COIN)), ((4, COIN),))
        self.assertEqual(self.act.followers((3, LOADED)), ((4, ("a", "a", "")),))
        self.assertEqual(self.act.followers((3, COIN)), ())
        self.assertEqual(self.act.followers((4, COIN)), ((5, COIN), (0, COIN)))
        self.assertEqual(self.act.followers((5, COIN)), ())

    def test_equal_followers(self):
        act = Act(coin_craft(), (("ask", 0, 0),))
        self.assertEqual(act.followers((0, COIN)), ((0, COIN), (0, COIN)))
        self.assertEqual(act.run_from((0, COIN)), ((0, COIN),))

    def test_glance_at_the_place_and_the_kind(self):
        for place in range(3):
            act = Act(coin_craft(), (("glance", place, "b", 2), END, END))
            for world in (("b", "", ""), ("", "abc", ""), ("a", "a", "bb"), ("a", "c", "")):
                self.assertEqual(act.followers((0, world)), ((2 if "b" in world[place] else 1, world),))

    def test_rests(self):
        self.assertIsNone(self.act.rest_at((0, COIN)))
        self.assertIsNone(self.act.rest_at((1, COIN)))
        self.assertIsNone(self.act.rest_at((2, COIN)))
        self.assertIsNone(self.act.rest_at((3, LOADED)))
        self.assertEqual(self.act.rest_at((3, COIN)), "stuck")
        self.assertEqual(self.act.rest_at((4, COIN)), "ask")
        self.assertEqual(self.act.rest_at((5, COIN)), "end")

    def test_runs(self):
        behind = ("a", "a", "")
        self.assertEqual(self.act.run_from((0, LOADED)), ((0, LOADED), (3, LOADED), (4, behind)))
        self.assertEqual(self.act.run_from((0, COIN)), ((0, COIN), (1, COIN), (2, COIN), (4, COIN)))
        self.assertEqual(self.act.run_from((2, COIN)), ((2, COIN), (4, COIN)))
        self.assertEqual(self.act.run_from((3, COIN)), ((3, COIN),))
        self.assertEqual(self.act.run_from((4, COIN)), ((4, COIN),))
        self.assertEqual(self.act.run_from((5, COIN)), ((5, COIN),))

    def test_a_run_that_gets_stuck(self):
        act = Act(coin_craft(), (PASS, PASS, END))
        self.assertEqual(act.run_from((0, COIN)), ((0, COIN), (1, ("", "a", ""))))
        self.assertEqual(act.rest_at((1, ("", "a", ""))), "stuck")

    def test_lists(self):
        standing = [0, list(LOADED)]
        for call in (self.act.followers, self.act.run_from):
            self.assertEqual(call(standing), call((0, LOADED)))
            self.assert_plain(call(standing))
        self.assert_plain(self.act.run_from([4, list(COIN)]))
        self.assertEqual(self.act.rest_at([4, list(COIN)]), "ask")
        self.assertEqual(standing, [0, list(LOADED)])

    def test_no_standing(self):
        worlds = (("", ""), ("",) * 4, ["ba", "", ""], (True, "", ""), ("a" * 9, "", ""), ("ab", "a", None))
        things = [(0, world) for world in worlds + NO_TUPLES]
        things.extend([[number, COIN] for number in NO_INTEGERS + (-1, 6)])
        things.extend([(), (0,), (0, COIN, 0), "0a", COIN])
        for thing in tuple(things) + NO_TUPLES:
            for call in (self.act.followers, self.act.rest_at, self.act.run_from):
                self.refused(NoStanding(thing), call, thing)


class TestJoined(Case):

    def setUp(self):
        self.craft = coin_craft()

    def test_cues(self):
        act = Act(self.craft, (("ask", 1, 2), END, ("go", 3), END))
        joined = act + Act(coin_craft(), LOOKS)
        self.assertEqual(joined.cues, (
            ("ask", 1, 2), ("go", 4), ("go", 3), ("go", 4),
            ("glance", 2, "a", 7), ("do", "open", ""), ("go", 8), ("do", "open", "load"), ("ask", 9, 4), END,
        ))
        self.assertIsInstance(joined, Act)
        self.assertEqual(joined.craft, self.craft)
        self.assert_plain(joined.cues)

    def test_the_acts_stay_as_they_were(self):
        first, second = coin_act(), Act(self.craft, LOOKS)
        first + second
        self.assertEqual((first.cues, second.cues), (CUES, LOOKS))

    def test_the_least(self):
        self.assertEqual((Act(self.craft, (END,)) + Act(self.craft, (END,))).cues, (("go", 1), END))
        self.assertEqual((Act(self.craft, (("ask", 0, 0),)) + Act(self.craft, (END,))).cues, (("ask", 0, 0), END))

    def test_it_shows_the_one_then_the_other(self):
        first, second = coin_act(), Act(self.craft, LOOKS)
        for start in (COIN, LOADED):
            one = Play(first, start, "110")
            other = Play(second, one.last[1], "0")
            both = Play(first + second, start, "1100")
            self.assertEqual(both.events, one.events + other.events)
            self.assertEqual((both.rest, both.price), ("end", one.price + other.price))
            self.assertEqual(both.last[1], other.last[1])

    def test_unlike_crafts(self):
        other = Act(self.craft.without("load"), CUES)
        self.refused(Unlike("craft"), lambda: coin_act() + other)
        self.refused(Unlike("craft"), lambda: other + coin_act())
        many = Act(self.craft.without("load"), (END,) * 60)
        self.refused(Unlike("craft"), lambda: coin_act() + many)

    def test_other_kinds(self):
        for thing in (None, 1, "", CUES, coin_act().craft):
            with self.assertRaises(TypeError):
                coin_act() + thing

    def test_names_that_are_words_of_cues(self):
        craft = Craft(2, (("end", (), ()), ("go", (), ())), (("end", "end", (), 1, ()), ("ask", "go", (), 1, ())))
        act = Act(craft, (("do", "end", "end"), ("do", "go", "ask"), END))
        self.assertEqual((act + act).cues, act.cues[:2] + (("go", 3),) + act.cues)

    def test_60_and_61(self):
        self.assertEqual(len(Act(self.craft, (END,) * 30) + Act(self.craft, (END,) * 30)), 60)
        self.refused(TooMany("cue"), lambda: Act(self.craft, (END,) * 31) + Act(self.craft, (END,) * 30))
        self.refused(TooMany("cue"), lambda: Act(self.craft, (END,)) + Act(self.craft, (END,) * 60))
