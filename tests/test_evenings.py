from shownempty.acts import Act
from shownempty.craft import Craft
from shownempty.ending import Ending
from shownempty.errors import BadPiece, BadPocket, BadWorld, NoPiece, TooMany, Twice, Unlike, Unreached
from shownempty.evenings import Evening
from shownempty.plays import Play
from shownempty.smooth import Smooth
from shownempty.standings import Standings
from shownempty.wishes import Keeps
from tests.acthelp import some_plays
from tests.eveninghelp import calls_of, ends_of, preparings_of, rich_evenings, some_evenings, value_of, wide_evening
from tests.eveninghelp import worlds_of
from tests.helpers import NO_INTEGERS, NO_STRINGS, NO_TUPLES, Case, as_lists, coin_act, coin_craft, partly_lists, spoil
from tests.test_craft import LETTERS
from tests.test_standings import BAD_WORLDS, many_standings

END = ("end",)
LEFT = ("a", "", "")
RIGHT = ("", "a", "")
POCKET = ("", "", "a")
ANY = (None, None, None)
# The coin passes from hand to hand; it is shown in the right hand, and ends there.
PASS = ("pass", (("do", "pass", ""), END), (None, "a", None))
SHOW = ("show", (("do", "open", ""), END), (None, "a", None))
# The coin can be taken from the right hand into the pocket (3), from there into the left hand (1) or the right one (4).
POCKETS = (((("a", 1, 2),), 3), ((("a", 2, 0),), 1), ((("a", 2, 1),), 4))
BAD_PIECES = [(name, coin_act(), ANY) for name in NO_STRINGS + ("", "coins" * 2, "Coin", "c1")]
BAD_PIECES.extend([("coin", act, ANY) for act in NO_TUPLES + (coin_craft(), coin_act().cues)])
BAD_PIECES.extend([("coin", coin_act(), wish) for wish in
                   NO_TUPLES + ((), (None, None), (None,) * 4, ("ba", "", ""), (True, None, None))])
BAD_PIECES.extend(list(NO_TUPLES) + [(), ("coin", coin_act()), ("coin", coin_act(), ANY, ANY), (coin_act(), "coin", ANY)])
BAD_DEEDS = NO_TUPLES + ((("a", 0),), (("a", 0, 0),), (("a", 0, 3),), (("A", 0, 1),), (("a", 0, 1),) * 4)
BAD_POCKETS = [(deed, 1) for deed in BAD_DEEDS] + [((), price) for price in NO_INTEGERS + (-1, 10, 10 ** 39)]
BAD_POCKETS.extend(list(NO_TUPLES) + [(), ((),), ((), 1, 1), (1, ())])


def piece_of(told):
    name, cues, wish = told
    return (name, Act(coin_craft(), cues), wish)


def coin_evening(start=LEFT, pockets=POCKETS):
    return Evening((piece_of(PASS), piece_of(SHOW)), pockets, start)


class TestEvening(Case):

    def setUp(self):
        self.evening = coin_evening()

    def test_worlds(self):
        self.assertEqual(self.evening.worlds, (POCKET, RIGHT, LEFT))
        self.assert_plain(self.evening.worlds)
        # Without pockets the coin stays where the pass has brought it.
        self.assertEqual(coin_evening(pockets=()).worlds, (RIGHT, LEFT))
        self.assertEqual(coin_evening(RIGHT, ()).worlds, (RIGHT,))
        # Acts that are not good lead nowhere.
        act = Act(coin_craft(), (("do", "pass", ""), ("ask", 0, 2), END))
        self.assertEqual(Evening((("pass", act, ANY),), (), LEFT).worlds, (LEFT,))

    def test_looked_up(self):
        self.assertEqual((len(self.evening), list(self.evening)), (2, [piece_of(PASS), piece_of(SHOW)]))
        for world in (POCKET, RIGHT, LEFT):
            self.assertIs(world in self.evening, True)
            self.assertIs(list(world) in self.evening, True)
        for thing in BAD_WORLDS + (("", "", ""), ("aa", "", ""), "coin"):
            self.assertIs(thing in self.evening, False)

    def test_attributes(self):
        pieces = [list(piece_of(PASS)), list(piece_of(SHOW))]
        pieces[0][2] = list(pieces[0][2])
        pockets, start = as_lists(POCKETS), list(LEFT)
        evening = Evening(start=start, pockets=pockets, pieces=pieces)
        act = pieces[0][1]
        for thing in (pieces, pockets, start):
            spoil(thing)
        self.assertEqual((evening.pieces, evening.pockets, evening.start), ((piece_of(PASS), piece_of(SHOW)), POCKETS, LEFT))
        self.assertIs(evening.pieces[0][1], act)
        self.assertIs(type(evening.pieces[0]), tuple)
        self.assertEqual(Evening((piece_of(SHOW),), partly_lists(POCKETS), LEFT).pockets, POCKETS)

    def test_good(self):
        good = [(name, world) for name in ("pass", "show") for world in self.evening.worlds
                if self.evening.is_good(name, world)]
        self.assertEqual(good, [("pass", LEFT), ("show", RIGHT)])
        self.assertIs(self.evening.is_good("pass", LEFT), True)
        self.assertIs(self.evening.is_good(world=list(RIGHT), name="pass"), False)
        self.assertEqual(self.evening.ends("pass", LEFT), (RIGHT,))
        self.assertIsNone(self.evening.ends("show", LEFT))
        self.assertEqual(self.evening.ends("show", list(RIGHT)), (RIGHT,))

    def test_what_makes_an_act_good(self):
        # Not stuck, without a loop, and with each end as it is wished.
        craft = coin_craft()
        for cues, wish, ends in (((("ask", 1, 2), ("do", "pass", ""), END), ANY, (RIGHT, LEFT)),
                                 ((("ask", 1, 2), ("do", "pass", ""), END), (None, "a", None), None),
                                 ((("ask", 0, 1), END), ANY, None), ((END, ("ask", 0, 0)), ANY, (LEFT,)),
                                 ((("do", "open", "load"), END), ANY, None), ((END,), LEFT, (LEFT,)),
                                 ((("ask", 1, 2), END, ("ask", 3, 3), ("ask", 2, 2)), ANY, None)):
            evening = Evening((("act", Act(craft, cues), wish),), (), LEFT)
            self.assertEqual(evening.ends("act", LEFT), ends)
            self.assertIs(evening.is_good("act", LEFT), ends is not None)
            self.assertEqual(evening.value(LEFT, ("act",)), -1 if ends is None else 0)

    def test_preparings(self):
        self.assertEqual(self.evening.preparing(RIGHT, LEFT), (4, (0, 1)))
        self.assertEqual(self.evening.preparing(list(RIGHT), list(POCKET)), (3, (0,)))
        self.assertEqual(self.evening.preparing(POCKET, RIGHT), (4, (2,)))
        self.assertEqual(self.evening.preparing(RIGHT, RIGHT), (0, ()))
        # From the left hand it is never taken.
        self.assertIsNone(self.evening.preparing(LEFT, RIGHT))
        self.assert_plain(self.evening.preparing(RIGHT, LEFT))

    def test_the_cheapest_preparing(self):
        # The least price, then the fewest numbers, then the first row.
        idle, over = (((), 0)), ((("a", 0, 1),), 2)
        away, there = ((("a", 0, 2),), 1), ((("a", 2, 1),), 1)
        for pockets, told in (((over, away, there), (2, (0,))), ((((("a", 0, 1),), 3), away, there), (2, (1, 2))),
                              ((idle, over, over), (2, (1,))), ((away, there, over, over), (2, (2,))),
                              (((away[0], 0), (there[0], 0), (over[0], 0)), (0, (2,))),
                              (((away[0], 0), (there[0], 0), (over[0], 1)), (0, (0, 1))),
                              ((((("~", 0, 1),), 1), ((("*", 0, 1),), 1)), (1, (0,)))):
            evening = Evening((piece_of(SHOW),), pockets, LEFT)
            self.assertEqual(evening.preparing(LEFT, RIGHT), told)

    def test_values(self):
        value = self.evening.value
        self.assertEqual([value(world, ()) for world in self.evening.worlds], [0, 0, 0])
        self.assertEqual([value(world, ("pass",)) for world in (LEFT, RIGHT, POCKET)], [0, 4, 1])
        self.assertEqual([value(world, ("show",)) for world in (LEFT, RIGHT, POCKET)], [-1, 0, 4])
        # From the left hand it cannot be shown at once; otherwise the dearest order is the one that counts.
        self.assertEqual([value(world, ("pass", "show")) for world in (LEFT, RIGHT, POCKET)], [-1, 4, 8])
        self.assertEqual(value(list(RIGHT), ["pass", "show"]), 4)
        self.assertEqual(value(left=("pass",), world=RIGHT), 4)

    def test_the_dearest_end_counts(self):
        # Behind the act the coin lies in either hand; from the left one it is dearer to go on.
        craft = coin_craft()
        either = ("either", Act(craft, (("ask", 2, 1), ("do", "pass", ""), END)), ANY)
        evening = Evening((either, piece_of(SHOW)), (((("a", 0, 1),), 6), ((("a", 1, 0),), 0)), LEFT)
        self.assertEqual(evening.ends("either", LEFT), (RIGHT, LEFT))
        self.assertEqual(evening.value(LEFT, ("either", "show")), 6)
        self.assertEqual(evening.prepared(LEFT, ("either", "show"), "either"), (0, LEFT))
        # Without a pocket there is an end from where it cannot be shown.
        self.assertEqual(Evening((either, piece_of(SHOW)), (((("a", 1, 0),), 0),), RIGHT).value(RIGHT, ("either",)), 0)
        self.assertEqual(Evening((either, piece_of(SHOW)), (((("a", 1, 0),), 0),), RIGHT).value(RIGHT, ("either", "show")), -1)

    def test_prepared(self):
        prepared = self.evening.prepared
        self.assertEqual(prepared(RIGHT, ("pass", "show"), "pass"), (4, LEFT))
        self.assertEqual(prepared(RIGHT, ("pass", "show"), "show"), (0, RIGHT))
        self.assertEqual(prepared(POCKET, ["show"], "show"), (4, RIGHT))
        self.assertIsNone(prepared(LEFT, ("show",), "show"))
        self.assertEqual(prepared(name="pass", left=("pass",), world=list(LEFT)), (0, LEFT))

    def test_the_first_world_of_several(self):
        # Both hands would do, for the same sum; the right one is less as a world.
        act = Act(coin_craft(), (END,))
        pockets = (((("a", 2, 0),), 2), ((("a", 2, 1),), 2), ((("a", 0, 2),), 0), ((("a", 1, 2),), 0))
        evening = Evening((("idle", act, (None, None, "")),), pockets, POCKET)
        self.assertEqual(evening.prepared(POCKET, ("idle",), "idle"), (2, RIGHT))
        self.assertEqual(evening.prepared(LEFT, ("idle",), "idle"), (0, LEFT))
        # The sum counts, not the price: the cheap world leads to a dear end.
        craft = coin_craft()
        first = ("first", Act(craft, (END,)), (None, None, ""))
        show = piece_of(SHOW)
        pockets = (((("a", 2, 0),), 1), ((("a", 2, 1),), 3), ((("a", 0, 1),), 5))
        evening = Evening((first, show), pockets, POCKET)
        self.assertEqual(evening.prepared(POCKET, ("first", "show"), "first"), (3, RIGHT))
        self.assertEqual(evening.prepared(POCKET, ("first",), "first"), (1, LEFT))

    def test_unreached_and_no_piece(self):
        evening = self.evening
        for thing in BAD_WORLDS + (("", "", ""), ("aa", "", ""), "coin"):
            self.refused(Unreached(thing), evening.is_good, None, thing)
            self.refused(Unreached(thing), evening.ends, None, thing)
            self.refused(Unreached(thing), evening.preparing, thing, None)
            self.refused(Unreached(thing), evening.preparing, LEFT, thing)
            self.refused(Unreached(thing), evening.value, thing, (None,))
            self.refused(Unreached(thing), evening.prepared, thing, (None,), None)
        for name in NO_STRINGS + ("", "coin", "passes"):
            self.refused(NoPiece(name), evening.is_good, name, LEFT)
            self.refused(NoPiece(name), evening.ends, name, LEFT)
            self.refused(NoPiece(name), evening.value, LEFT, ("pass", name, None))
            self.refused(NoPiece(name), evening.prepared, LEFT, (name,), name)
            self.refused(NoPiece(name), evening.prepared, LEFT, ("pass",), name)
        self.refused(NoPiece("show"), evening.prepared, LEFT, ("pass",), "show")
        self.refused(NoPiece("pass"), evening.prepared, LEFT, (), "pass")

    def test_bad_pieces(self):
        good = piece_of(PASS)
        for pieces in NO_TUPLES + ((), [], (good,) * 5):
            self.refused(BadPiece(-1), Evening, pieces, None, None)
        for thing in BAD_PIECES:
            self.refused(BadPiece(1), Evening, (good, thing, None), None, None)
            self.refused(BadPiece(1), Evening, [list(good), thing], None, None)
        self.refused(BadPiece(0), Evening, (None, None), None, None)
        # The wish is of the size of its own act.
        craft = Craft(2, (("nod", (), ()),))
        self.refused(BadPiece(1), Evening, (good, ("nod", Act(craft, (END,)), ANY)), (), LEFT)

    def test_unlike_crafts(self):
        craft = coin_craft().without("keep")
        other = ("open", Act(craft, (("do", "open", ""), END)), ANY)
        self.refused(Unlike("craft"), Evening, (piece_of(PASS), other), None, None)
        self.refused(Unlike("craft"), Evening, (piece_of(PASS), piece_of(PASS), other), None, None)
        self.refused(BadPiece(2), Evening, (piece_of(PASS), other, None), None, None)
        self.assertEqual(len(Evening((other,), (), LEFT)), 1)

    def test_twice(self):
        self.refused(Twice("show"), Evening, (piece_of(PASS), piece_of(SHOW), ("show", coin_act(), ANY), piece_of(PASS)),
                     None, None)

    def test_bad_pockets(self):
        pieces = (piece_of(PASS),)
        for pockets in NO_TUPLES + (POCKETS + POCKETS + POCKETS[:1],):
            self.refused(BadPocket(-1), Evening, pieces, pockets, None)
        for thing in BAD_POCKETS:
            self.refused(BadPocket(1), Evening, pieces, (POCKETS[0], thing, None), None)
            self.refused(BadPocket(1), Evening, pieces, [list(POCKETS[0]), thing], None)
        self.refused(Twice("pass"), Evening, pieces * 2, None, None)

    def test_bad_worlds(self):
        for start in BAD_WORLDS:
            self.refused(BadWorld(start), Evening, (piece_of(PASS),), POCKETS, start)
        self.refused(BadWorld(("",)), Evening, *wide_evening(("",)))

    def test_1_to_4_pieces_and_0_to_6_pockets(self):
        pieces = tuple((name, Act(coin_craft(), (END,)), ANY) for name in LETTERS[:4])
        for many in range(1, 5):
            evening = Evening(pieces[:many], POCKETS[:many - 1] * 2, LEFT)
            self.assertEqual((len(evening), len(evening.pockets)), (many, 2 * many - 2))
            self.assertEqual(evening.value(LEFT, tuple(LETTERS[:many])), 0)

    def test_200_and_201_worlds(self):
        evening = Evening(*wide_evening(("aaabbc", "", "", "")))
        self.assertEqual(len(evening.worlds), 200)
        self.assertEqual(evening.value(("aaabbc", "", "", ""), ("coin",)), 0)
        far = ("c", "", "", "aaabb")
        self.assertEqual(evening.preparing(evening.start, far), (15, (0, 0, 0, 1, 1, 1, 2, 2, 2, 3, 3, 4, 4, 5, 5)))
        self.refused(TooMany("world"), Evening, *wide_evening(("", "", "", "aaabbc")))

    def test_600_and_601_standings(self):
        # From the world to which the pocket leads, the act has so many; it is not even good.
        for nods in (10, 11):
            act, start = many_standings(nods)
            pieces = (("over", act, (None, None)),)
            begun = ("aaaabbb", "b")
            self.assertLess(len(Standings(act, begun)), 600)
            self.assertEqual(Evening(pieces, (), begun).worlds, (begun,))
            if nods == 10:
                self.assertEqual(Evening(pieces, (((("b", 1, 0),), 9),), begun).worlds, (begun, start))
            else:
                self.refused(TooMany("world"), Evening, pieces, (((("b", 1, 0),), 9),), begun)
                self.refused(TooMany("world"), Evening, pieces, (), start)

    def test_a_world_that_comes_of_an_act(self):
        # By the act itself one comes to a world from which the other act has too many standings.
        act, start = many_standings(11)
        craft = act.craft
        fetch = Act(Craft(2, craft.gestures + (("fetch", (("b", 1, 0),), ()),)), (("do", "fetch", ""), END))
        pieces = (("fetch", fetch, (None, None)), ("over", Act(fetch.craft, act.cues), (None, None)))
        self.refused(TooMany("world"), Evening, pieces, (), ("aaaabbb", "b"))
        self.assertEqual(Evening(pieces[:1], (), ("aaaabbb", "b")).worlds, (("aaaabbb", "b"), start))

    def test_one_piece_agrees_with_the_verdicts(self):
        told = set()
        for act, start, rng in some_plays(400, 110):
            wish = tuple([rng.choice((None, None, "", "a")) for _ in start])
            evening = Evening((("act", act, wish),), (), start)
            good = bool(Smooth(act, start)) and bool(Ending(act, start)) and bool(Keeps(act, start, wish))
            self.assertEqual((evening.is_good("act", start), evening.value(start, ("act",))), (good, 0 if good else -1))
            told.add(good)
            for world in evening.ends("act", start) or ():
                self.assertIn(world, {Play(act, start, row).last[1] for row in self.rows_to_ends(act, start)})
        self.assertEqual(told, {True, False})

    def rows_to_ends(self, act, start):
        standings = Standings(act, start)
        return [standings[standing] for standing in standings if act[standing[0]] == END]

    def test_many_evenings(self):
        told = set()
        for evenings in (some_evenings(100, 111), rich_evenings(60, 112)):
            for evening, rng in evenings:
                self.assertEqual(evening.worlds, worlds_of(evening))
                names = sorted(piece[0] for piece in evening)
                lots = {(), tuple(names)} | {tuple(sorted(rng.sample(names, rng.randint(1, len(names))))) for _ in range(2)}
                for world in evening.worlds[:6]:
                    self.one(evening, world, names, lots)
                    told.update((len(lot), min(evening.value(world, lot), 1)) for lot in lots)
        self.assertLessEqual({(many, value) for many in (1, 2, 3) for value in (-1, 0, 1)}, told)

    def one(self, evening, world, names, lots):
        """All that is told of the world is what is found in a plain way."""
        preparings = preparings_of(evening, world)
        for goal in evening.worlds:
            self.assertEqual(evening.preparing(world, goal), preparings.get(goal))
        for name in names:
            ends = ends_of(evening, name, world)
            self.assertEqual((evening.ends(name, world), evening.is_good(name, world)), (ends, ends is not None))
        for lot in lots:
            self.assertEqual(evening.value(world, lot), value_of(evening, world, lot))
            for name in lot:
                rest = tuple([other for other in lot if other != name])
                calls = calls_of(evening, name, world, lambda end: value_of(evening, end, rest))
                self.assertEqual(evening.prepared(world, lot, name), (calls[0][2], calls[0][1]) if calls else None)
