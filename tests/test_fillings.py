import itertools

from shownempty.acts import Act
from shownempty.craft import Craft
from shownempty.errors import BadAnswer, BadHeld, BadKnown, NoFilling, TooMany
from shownempty.fillings import Fillings
from shownempty.plays import show_of
from shownempty.worlds import all_worlds
from tests.acthelp import some_guest, some_plays
from tests.helpers import NO_INTEGERS, NO_STRINGS, NO_TUPLES, Case, as_lists, coin_act, coin_craft, spoil
from tests.test_standings import BAD_WORLDS

END = ("end",)
COIN = ("a", "", "")
PASSED = ("", "a", "")
EVERY = tuple((world, (first, "")) for world in (PASSED, COIN) for first in ("", "keep"))
NO_FILLINGS = NO_TUPLES + ((), (COIN,), (COIN, ("keep",)), (COIN, ("keep", "", "")), (COIN, ("load", "")),
                           (COIN, ("", "keep")), (("a", "a", ""), ("", "")), (COIN, ("", ""), 0), (COIN, "ab"),
                           (COIN, (True, "")), (("a", ""), ("", "")), ((), ("", "")), ("abc", ("", "")), (0, COIN))
NO_FILLINGS += tuple((COIN, (manner, "")) for manner in NO_STRINGS) + tuple((thing, ("", "")) for thing in NO_TUPLES)
NO_FILLINGS += tuple((COIN, thing) for thing in NO_TUPLES)


def many_fillings(worlds, sleights):
    """An act, so many held worlds and so many known sleights beneath its only stroke."""
    names = tuple([letter * 2 for letter in "abcdefgh"[:sleights]])
    craft = Craft(4, (("nod", (), ()),), [(name, "nod", (), 1, ()) for name in names])
    return Act(craft, (("do", "nod", ""), END)), tuple(list(all_worlds(4, "aabb"))[:worlds]), names


class TestFillings(Case):

    def setUp(self):
        self.fillings = Fillings(coin_act(), (PASSED, COIN), ("keep",))

    def test_all(self):
        self.assertEqual((tuple(self.fillings), len(self.fillings)), (EVERY, 4))
        self.assert_plain(tuple(self.fillings))

    def test_in_and_by_number(self):
        for k, filling in enumerate(EVERY):
            self.assertIs(filling in self.fillings, True)
            self.assertIs(as_lists(filling) in self.fillings, True)
            self.assertEqual(self.fillings[k], filling)
        for thing in NO_FILLINGS:
            self.assertIs(thing in self.fillings, False)
        for number in NO_INTEGERS + (-1, 4, 10 ** 39):
            self.refused(NoFilling(number), lambda: self.fillings[number])
        self.refused(NoFilling(slice(0, 1)), lambda at: self.fillings[at], slice(0, 1))

    def test_ascending_by_manners_as_strings(self):
        # In the craft the sleight with the greater name comes first.
        craft = Craft(2, (("nod", (), ()), ("wave", (), ())), (("slip", "nod", (), 1, ()), ("palm", "nod", (), 1, ())))
        act = Act(craft, (("do", "nod", "slip"), ("do", "wave", ""), ("do", "nod", ""), END))
        fillings = Fillings(act, (("", "a"),), ("palm", "slip"))
        self.assertEqual(list(fillings), [(("", "a"), row) for row in itertools.product(("", "palm", "slip"), ("",),
                                                                                       ("", "palm", "slip"))])

    def test_acts_without_strokes(self):
        fillings = Fillings(Act(coin_craft(), (END,)), (PASSED, COIN), ("keep", "load"))
        self.assertEqual(tuple(fillings), ((PASSED, ()), (COIN, ())))

    def test_filled(self):
        act = coin_act()
        for filling in EVERY + tuple(as_lists(EVERY)):
            filled = self.fillings.filled(filling)
            self.assertIs(type(filled), Act)
            self.assertEqual(filled.cues, (("do", "pass", filling[1][0]), ("ask", 2, 0), ("do", "open", ""), END))
            self.assertTrue(filled.craft == act.craft)
        self.assertTrue(self.fillings.filled((COIN, ("keep", ""))) == act)

    def test_show(self):
        for filling in EVERY:
            for answers in ("", "0", "1", "10", "0000", "11110"):
                expected = show_of(self.fillings.filled(filling), filling[0], answers)
                self.assertEqual(self.fillings.show(filling, answers), expected)
                self.assertEqual(self.fillings.show(as_lists(filling), answers), expected)
        self.assertEqual(self.fillings.show((COIN, ("", "")), "10"), ((("pass", ()), "1"), "stuck"))
        self.assertEqual(self.fillings.show((COIN, ("keep", "")), "0111"), ((("pass", ()), "0", ("open", ("",))), "end"))

    def test_errors_of_filled_and_show(self):
        for thing in NO_FILLINGS:
            self.refused(NoFilling(thing), self.fillings.filled, thing)
            self.refused(NoFilling(thing), self.fillings.show, thing, None)
        for answers in NO_STRINGS + ("0" * 201,):
            self.refused(BadAnswer(-1), self.fillings.show, EVERY[0], answers)
        for answers, k in (("2", 0), ("0a1", 1), ("11 ", 2), ("0" * 199 + "x", 199)):
            self.refused(BadAnswer(k), self.fillings.show, EVERY[1], answers)

    def test_what_is_returned_belongs_to_the_caller(self):
        self.fillings.filled(EVERY[0]).cues = (END,)
        self.assertEqual(len(self.fillings.filled(EVERY[0])), 4)

    def test_attributes(self):
        act, held, known = coin_act(), as_lists((PASSED, COIN)), ["keep"]
        fillings = Fillings(known=known, held=held, act=act)
        spoil(held)
        spoil(known)
        self.assertIs(fillings.act, act)
        self.assertEqual((fillings.held, fillings.known), ((PASSED, COIN), ("keep",)))
        self.assertEqual(tuple(fillings), EVERY)

    def test_300_and_301(self):
        self.assertEqual(len(Fillings(*many_fillings(60, 4))), 300)
        self.assertEqual(len(Fillings(*many_fillings(43, 5))), 43 * 6)
        self.refused(TooMany("filling"), Fillings, *many_fillings(43, 6))
        self.refused(TooMany("filling"), Fillings, *many_fillings(60, 5))

    def test_far_too_many(self):
        act = Act(coin_craft(), [("do", "pass", "")] * 59 + [END])
        self.refused(TooMany("filling"), Fillings, act, (COIN,), ("keep",))
        self.assertEqual(len(Fillings(act, (COIN,), ("load",))), 1)
        act = Act(coin_craft(), [("do", "pass", "")] * 8 + [END])
        self.assertEqual(len(Fillings(act, (COIN,), ("keep",))), 256)

    def test_errors_in_their_order(self):
        act = many_fillings(60, 5)[0]
        for held in NO_TUPLES + ((), (COIN,) * 61):
            self.refused(BadHeld(-1), Fillings, coin_act(), held, None)
        for world in BAD_WORLDS + (COIN, PASSED):
            self.refused(BadHeld(1), Fillings, coin_act(), (COIN, world, None), None)
        for known in NO_TUPLES:
            self.refused(BadKnown(-1), Fillings, coin_act(), (COIN,), known)
        for name in NO_STRINGS + ("", "pass", "keep"):
            self.refused(BadKnown(1), Fillings, coin_act(), (COIN,), ("keep", name, None))
        self.refused(BadKnown(0), Fillings, act, list(all_worlds(4, "aabb"))[:60], ("keep",))

    def test_many_acts(self):
        for act, start, rng in some_plays(200, 60):
            guest = some_guest(rng, act.craft, start)
            ways = [sorted([manner for manner in act.craft.manners_of(act[number][1])
                            if manner == "" or manner in guest.known]) for number in act.strokes]
            every = list(itertools.product(guest.held, itertools.product(*ways)))
            if len(every) <= 300:
                self.assertEqual(list(Fillings(act, guest.held, guest.known)), every)
