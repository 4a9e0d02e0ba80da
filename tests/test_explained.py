from shownempty.craft import Craft
from shownempty.errors import BadSeen
from shownempty.explained import Explained
from shownempty.guests import Guest
from tests.helpers import NO_STRINGS, NO_TUPLES, Case, as_lists, coin_craft, spoil
from tests.test_guests import BOTH, COIN, EMPTY, FULL, NO_EVENTS, PASS, PASSED, explanations, some_sights


class TestExplained(Case):

    def setUp(self):
        self.guest = Guest(coin_craft(), (PASSED, COIN), ("keep", "load"), 2)

    def told(self, seen, fewest, number, lightest, first, sure):
        """All this is told of the seen things."""
        explained = Explained(self.guest, seen)
        self.assertEqual((explained.fewest, explained.number, explained.lightest), (fewest, number, lightest))
        self.assertEqual((explained.first, explained.sure, len(explained)), (first, sure, len(sure)))
        self.assert_plain((explained.first, explained.sure, explained.seen))

    def test_nothing(self):
        self.told((), 0, 2, 2, (PASSED, ()), ())
        self.told(("0", "1"), 0, 2, 2, (PASSED, ()), ())

    def test_passed_and_empty(self):
        self.told((PASS, EMPTY), 1, 1, 1, (COIN, ("keep", "")), ("keep", ""))

    def test_passed(self):
        # From the hand 0 honestly or kept, from the hand 1 kept.
        self.told((PASS,), 0, 3, 1, (COIN, ("",)), (None,))
        self.told((PASS, "1", FULL, "0"), 0, 2, 1, (COIN, ("", "")), (None, ""))

    def test_none(self):
        for seen in ((PASS, FULL, PASS, EMPTY, PASS), (("open", ("b",)), "1", PASS), (PASS,) * 4):
            strokes = len([event for event in seen if event != "1"])
            self.told(seen, None, 0, 0, None, (None,) * strokes)

    def test_the_fewest_sleights_go_ahead(self):
        # What begins with the lesser world and the lesser manners needs one sleight more.
        self.told((PASS, PASS), 1, 4, 2, (COIN, ("", "keep")), (None, None))
        guest = Guest(coin_craft(), (PASSED, COIN), ("keep",), 2)
        expected = min([(len([m for m in found[1] if m]), found) for found, _ in explanations(guest, (PASS, PASS))])
        self.assertEqual(Explained(guest, (PASS, PASS)).first, expected[1])

    def test_very_many(self):
        craft = Craft(2, (("nod", (), ()),), [(letter * 2, "nod", (), 1, ()) for letter in "abcdefgh"])
        explained = Explained(Guest(craft, (("", "a"), ("a", "")), craft.arts, 4), (("nod", ()),) * 24)
        chosen = (1, 24, 276, 2024, 10626)
        self.assertEqual(explained.number, 2 * sum([many * 8 ** k for k, many in enumerate(chosen)]))
        self.assertEqual((explained.fewest, explained.lightest, explained.first), (0, 2, (("", "a"), ("",) * 24)))
        self.assertEqual(explained.sure, (None,) * 24)

    def test_manners_are_compared_as_strings(self):
        sleights = [(name, "nod", (("a", 0, 1),), 1, ()) for name in ("slip", "palm", "ruse")]
        craft = Craft(2, (("nod", (), (1,)),), sleights)
        guest = Guest(craft, (("a", ""),), ("palm", "ruse", "slip"), 1)
        self.assertEqual(Explained(guest, (("nod", ("a",)),)).first, (("a", ""), ("palm",)))
        self.assertEqual(Explained(Guest(craft, (("a", ""),), ("ruse", "slip"), 1), (("nod", ("a",)),)).first,
                         (("a", ""), ("ruse",)))

    def test_a_manner_that_later_needs_too_many_sleights_is_none(self):
        # Who thinks of two sleights can also think that the coin was kept and another one loaded.
        seen = (PASS, FULL)
        self.assertEqual(Explained(Guest(coin_craft(), (BOTH,), ("keep", "load"), 1), seen).sure, ("", ""))
        self.assertEqual(Explained(Guest(coin_craft(), (BOTH,), ("keep", "load"), 2), seen).sure, (None, None))

    def test_attributes(self):
        seen = as_lists((PASS, "0", EMPTY))
        explained = Explained(seen=seen, guest=self.guest)
        spoil(seen)
        self.assertIs(explained.guest, self.guest)
        self.assertEqual((explained.seen, len(explained)), ((PASS, "0", EMPTY), 2))

    def test_24_seen_things_and_25(self):
        self.assertEqual(len(Explained(self.guest, (EMPTY,) * 24)), 24)
        self.refused(BadSeen(-1), Explained, self.guest, (EMPTY,) * 25)

    def test_bad_seen(self):
        for seen in NO_TUPLES + ([None] * 25,):
            self.refused(BadSeen(-1), Explained, self.guest, seen)
        for event in NO_EVENTS:
            self.refused(BadSeen(1), Explained, self.guest, ("1", event, None))

    def test_in(self):
        explained = Explained(self.guest, (PASS, "1", PASS))
        for thing in ((COIN, ("keep", "")), (COIN, ("", "keep")), (PASSED, ("keep", "keep")), [list(COIN), ["keep", "keep"]]):
            self.assertIs(thing in explained, True)
        for thing in ((COIN, ("", "")), (PASSED, ("", "keep")), (PASSED, ("keep", "")), (BOTH, ("keep", "")),
                      (COIN, ("keep",)), (COIN, ("keep", "", "")), (COIN, ("keep", "load")), (COIN, "keep"), (COIN,),
                      (COIN, ("keep", ""), 0), (("a", ""), ("keep", "")), (COIN, (None, "")), (COIN, (True, "")), ()):
            self.assertIs(thing in explained, False)
        for name in NO_STRINGS:
            self.assertIs((COIN, (name, "")) in explained, False)
            self.assertIs((COIN, ("keep", name)) in explained, False)
        for thing in NO_TUPLES:
            self.assertIs(thing in explained, False)
            self.assertIs((thing, ("keep", "")) in explained, False)
            self.assertIs((COIN, thing) in explained, False)
            self.assertIs((COIN, (thing, "")) in explained, False)

    def test_the_most_bounds_what_is_one(self):
        seen = (PASS, PASS, PASS)
        self.assertIs((PASSED, ("keep",) * 3) in Explained(self.guest, seen), False)
        self.assertIs((PASSED, ("keep",) * 3) in Explained(Guest(coin_craft(), (PASSED,), ("keep",), 3), seen), True)
        self.assertIs((COIN, ("keep", "")) in Explained(Guest(coin_craft(), (COIN,), (), 3), (PASS, PASS)), False)

    def test_what_is_told_is_that_of_all_explanations(self):
        told = set()
        for guest, seen in some_sights(600, 4):
            explained = Explained(guest, seen)
            found = [explanation for explanation, _ in explanations(guest, seen)]
            sleights = {one: len([manner for manner in one[1] if manner]) for one in found}
            fewest = min(sleights.values(), default=None)
            self.assertEqual((explained.fewest, explained.number), (fewest, len(found)))
            self.assertEqual(explained.lightest, list(sleights.values()).count(fewest))
            self.assertEqual(explained.first, min(found, key=lambda one: (sleights[one], one), default=None))
            strokes = len([event for event in seen if not isinstance(event, str)])
            sure = [{one[1][k] for one in found} for k in range(strokes)]
            self.assertEqual(explained.sure, tuple([sorted(few)[0] if len(few) == 1 else None for few in sure]))
            self.assertEqual(len(explained), strokes)
            self.assertEqual(explained.fewest, Guest.cost(guest.mind(seen)))
            self.members(guest, seen, explained, found)
            told.add((min(len(found), 3), fewest))
        self.assertLessEqual({(0, None), (1, 0), (3, 0), (1, 1), (2, 1), (3, 1)}, told)

    def members(self, guest, seen, explained, found):
        """Just the explanations are in what is told of them."""
        more = Guest(guest.craft, guest.held, guest.craft.arts, 4)
        for one, _ in explanations(more, seen):
            self.assertIs(one in explained, one in found)
