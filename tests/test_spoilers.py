import itertools

from shownempty.acts import Act
from shownempty.craft import Craft
from shownempty.errors import BadHeld, BadMost, BadWorld, TooMany
from shownempty.guests import Guest
from shownempty.spoilers import spoilers
from shownempty.wonders import Wonder
from tests.acthelp import rich_plays, some_guest, with_way_out
from tests.helpers import NO_INTEGERS, NO_TUPLES, Case, coin_act, coin_craft
from tests.test_standings import BAD_WORLDS, many_standings

END = ("end",)
COIN = ("a", "", "")
PASSED = ("", "a", "")
BOTH = ("a", "", "a")
# The coin is passed, the hand is empty, and then it is full.
CUES = (("do", "pass", "keep"), ("do", "open", ""), ("do", "open", "load"), END)


class TestSpoilers(Case):

    def test_one(self):
        self.assertEqual(spoilers(coin_act(), COIN, (COIN,), 1), (("keep",),))
        self.assertEqual(spoilers(coin_act(), COIN, (PASSED, COIN), 4), (("keep",),))

    def test_two_together(self):
        act = Act(coin_craft(), CUES)
        self.assertEqual(spoilers(act, BOTH, (BOTH,), 2), (("keep", "load"),))
        self.assert_plain(spoilers(act, BOTH, (BOTH,), 2))

    def test_none_is_enough(self):
        self.assertEqual(spoilers(Act(coin_craft(), CUES), BOTH, (BOTH,), 1), ())
        self.assertEqual(spoilers(coin_act(), COIN, (COIN,), 0), ())
        self.assertEqual(spoilers(coin_act(), COIN, (PASSED,), 4), ())

    def test_who_knows_none_explains_it(self):
        act = Act(coin_craft(), (("do", "pass", "keep"), END))
        self.assertEqual(spoilers(act, COIN, (COIN,), 4), ((),))
        self.assertEqual(spoilers(Act(coin_craft(), (END,)), COIN, (PASSED,), 0), ((),))

    def test_several(self):
        # Each of two sleights explains it, and so do two others together.
        sleights = (("slip", "tip", (), 1, ()), ("hold", "tip", (("b", 0, 1),), 1, ()),
                    ("draw", "tip", (("a", 0, 1), ("b", 1, 0)), 1, ()), ("back", "turn", (("a", 1, 0),), 1, ()))
        craft = Craft(2, (("tip", (("a", 0, 1),), ()), ("turn", (), ()), ("show", (), (0,))), sleights)
        act = Act(craft, (("do", "tip", "slip"), ("do", "turn", ""), ("do", "show", ""), END))
        self.assertEqual(spoilers(act, ("ab", ""), (("ab", ""),), 2), (("back",), ("slip",)))
        self.assertEqual(spoilers(act, ("ab", ""), (("ab", "b"),), 2), (("back",), ("slip",)))
        self.assertEqual(spoilers(act, ("ab", ""), (("a", "b"), ("ab", "b")), 2), (("back",), ("slip",)))
        self.assertEqual(spoilers(act, ("ab", ""), (("a", "b"),), 2), (("back", "draw"),))

    def test_craft_without_sleights(self):
        craft = coin_craft().without("keep", "load")
        act = Act(craft, (("do", "pass", ""), ("do", "open", ""), END))
        self.assertEqual(spoilers(act, COIN, (COIN,), 4), ((),))
        self.assertEqual(spoilers(act, COIN, (PASSED,), 4), ())

    def test_lists(self):
        self.assertEqual(spoilers(coin_act(), list(COIN), [list(PASSED), list(COIN)], 1), (("keep",),))
        self.assertEqual(spoilers(act=coin_act(), start=COIN, held=(COIN,), most=1), (("keep",),))

    def test_many_acts(self):
        told = set()
        for act, start, rng in rich_plays(150, 50):
            guest = some_guest(rng, act.craft, start)
            try:
                spoiling = [lot for number in range(5) for lot in itertools.combinations(act.craft.arts, number)
                            if not Wonder(act, start, Guest(act.craft, guest.held, lot, guest.most))]
            except TooMany:
                continue
            least = [lot for lot in spoiling if not any(set(other) < set(lot) for other in spoiling)]
            self.assertEqual(spoilers(act, start, guest.held, guest.most), tuple(least))
            told.add((len(least), len(least[0]) if least else None))
        self.assertLessEqual({(0, None), (1, 0), (1, 1), (2, 1)}, told)

    def test_too_many_thoughts(self):
        act, start = many_standings(11)
        self.refused(TooMany("thought"), spoilers, act, start, (start,), 4)
        self.assertEqual(spoilers(*many_standings(10), (start,), 4), ())
        # Who knows the sleight has more thoughts than who does not.
        craft = Craft(2, (("nod", (), ()), ("left", (("a", 0, 1),), ())), (("slip", "left", (), 1, ()),))
        act = Act(craft, [("do", "nod", "")] * 43 + [("do", "left", "slip"), ("ask", 0, 0)])
        start = ("aaaaaaaa", "")
        self.assertEqual(spoilers(act, start, (start,), 0), ())
        self.refused(TooMany("thought"), spoilers, act, start, (start,), 4)
        # Nothing more is looked at when the empty lot spoils it.
        self.assertEqual(spoilers(with_way_out(act), start, (start,), 4), ((),))

    def test_errors_in_their_order(self):
        act, start = many_standings(11)
        for world in BAD_WORLDS:
            self.refused(BadWorld(world), spoilers, coin_act(), world, None, None)
        for held in NO_TUPLES + ((), (COIN,) * 61):
            self.refused(BadHeld(-1), spoilers, coin_act(), COIN, held, None)
        for world in BAD_WORLDS + (COIN, PASSED):
            self.refused(BadHeld(1), spoilers, coin_act(), COIN, (COIN, world, None), None)
        for most in NO_INTEGERS + (-1, 5):
            self.refused(BadMost(most), spoilers, act, start, (start,), most)
