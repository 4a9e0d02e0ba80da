from shownempty.craft import Craft
from shownempty.errors import BadGesture, BadSize, BadSleight, BadWorld
from shownempty.errors import NoGesture, NoManner, NoSleight, TooMany, Twice
from tests.helpers import NO_INTEGERS, NO_STRINGS, NO_TUPLES, Case, EqualToAll, as_lists, coin_craft, spoil

PASS = ("pass", (("a", 0, 1),), ())
OPEN = ("open", (), (1,))
REACH = ("reach", (), (0,))
KEEP = ("keep", "pass", (), 2, (0,))
LOAD = ("load", "open", (("a", 2, 1),), 5, (1, 3))
GESTURES = (PASS, OPEN, REACH)
SLEIGHTS = (KEEP, LOAD)
LETTERS = "abcdefghij"


def gestures_of(many):
    return tuple([(letter, (), ()) for letter in LETTERS[:many]])


def sleights_of(many):
    return tuple([(letter, "a", (), 1, ()) for letter in LETTERS[:many]])


class TestMade(Case):

    def test_attributes(self):
        craft = Craft(3, GESTURES, SLEIGHTS)
        self.assertEqual((craft.size, craft.gestures, craft.sleights), (3, GESTURES, SLEIGHTS))
        self.assertEqual(Craft(2, (PASS,)).sleights, ())
        self.assertEqual(Craft(sleights=SLEIGHTS, gestures=GESTURES, size=3), craft)

    def test_lists_are_kept_as_tuples(self):
        gestures = as_lists(GESTURES)
        sleights = as_lists(SLEIGHTS)
        craft = Craft(3, gestures, sleights)
        self.assertEqual((gestures, sleights), (as_lists(GESTURES), as_lists(SLEIGHTS)))
        spoil(gestures)
        spoil(sleights)
        self.assertEqual((craft.gestures, craft.sleights), (GESTURES, SLEIGHTS))
        self.assert_plain((craft.gestures, craft.sleights))
        self.assertEqual(craft.deed_of("open", "load"), (("a", 2, 1),))
        self.assertEqual(craft.spots_of("open", "load"), (1, 3))

    def test_each_size(self):
        for size in range(2, 7):
            gesture = ("show", (("~", 0, size - 1),), tuple(range(size)))
            sleight = ("look", "show", (("~", size - 1, 0),), 1, tuple(range(size + 1)))
            self.assertEqual(Craft(size, (gesture,), (sleight,)).size, size)
            self.refused(BadGesture(0), Craft, size, (("show", (), (size,)),))
            self.refused(BadGesture(0), Craft, size, (("show", (("a", 0, size),), ()),))
            self.refused(BadSleight(0), Craft, size, (gesture,), (("look", "show", (), 1, (size + 1,)),))
            self.refused(BadSleight(0), Craft, size, (gesture,), (("look", "show", (("a", size, 0),), 1, ()),))

    def test_bad_sizes(self):
        for size in NO_INTEGERS + (-1, 0, 1, 7, 10 ** 39):
            self.refused(BadSize(size), Craft, size, None, None)


class TestGestures(Case):

    def test_no_tuple_of_at_least_one(self):
        for gestures in NO_TUPLES + ((), []):
            self.refused(BadGesture(-1), Craft, 2, gestures, None)

    def test_the_first_bad_one_is_told(self):
        bad = ("open", (), (2,))
        self.refused(BadGesture(1), Craft, 2, (PASS, bad, bad))
        self.refused(BadGesture(2), Craft, 2, [PASS, PASS, bad])

    def test_no_triples(self):
        for gesture in NO_TUPLES + ((), ("pass", ()), ("pass", (), (), ())):
            self.refused(BadGesture(1), Craft, 2, (PASS, gesture))

    def test_names(self):
        for name in ("a", "z", "abcdefgh", "zzzzzzzz"):
            self.assertEqual(Craft(2, ((name, (), ()),)).gestures, ((name, (), ()),))
        for name in NO_STRINGS + ("", "abcdefghi", "A", "a b", "a1", "-", "a_"):
            self.refused(BadGesture(0), Craft, 2, ((name, (), ()),))

    def test_meanings(self):
        for meaning in NO_TUPLES + ((("a", 0, 2),), (("a", 0, 1),) * 4, (("a", False, 1),), ("a", 0, 1)):
            self.refused(BadGesture(0), Craft, 2, (("a", meaning, ()),))

    def test_shown_places(self):
        for shown in NO_TUPLES + ((2,), (-1,), (0, 0), (1, 0), (True,), (0, True), (None,), ("0",), (0, 1, 2)):
            self.refused(BadGesture(0), Craft, 2, (("a", (), shown),))
        self.assertEqual(Craft(2, (("a", (), [0, 1]),)).places_of("a"), (0, 1))

    def test_eight_and_nine(self):
        self.assertEqual(len(Craft(2, gestures_of(8))), 8)
        self.refused(TooMany("gesture"), Craft, 2, gestures_of(9), None)

    def test_a_bad_ninth_one_goes_ahead_of_too_many(self):
        self.refused(BadGesture(8), Craft, 2, gestures_of(8) + (("A", (), ()),))

    def test_too_many_goes_ahead_of_twice(self):
        self.refused(TooMany("gesture"), Craft, 2, gestures_of(8) + gestures_of(1))

    def test_twice(self):
        self.refused(Twice("b"), Craft, 2, (("a", (), ()), ("b", (), ()), ("b", (), (0,)), ("a", (), ())), None)
        self.refused(Twice("a"), Craft, 2, (("a", (), ()), ("b", (), ()), ("a", (), ()), ("b", (), ())), None)


class TestSleights(Case):

    def test_no_tuple(self):
        for sleights in NO_TUPLES:
            self.refused(BadSleight(-1), Craft, 3, GESTURES, sleights)
        self.assertEqual(Craft(3, GESTURES, []).sleights, ())

    def test_the_first_bad_one_is_told(self):
        bad = ("load", "open", (), 0, ())
        self.refused(BadSleight(1), Craft, 3, GESTURES, (KEEP, bad, bad))
        self.refused(BadSleight(2), Craft, 3, GESTURES, [KEEP, KEEP, bad])

    def test_no_tuples_of_five(self):
        for sleight in NO_TUPLES + ((), ("a", "pass", (), 1), ("a", "pass", (), 1, (), ())):
            self.refused(BadSleight(0), Craft, 3, GESTURES, (sleight,))

    def test_names(self):
        for name in NO_STRINGS + ("", "abcdefghi", "A", "a-"):
            self.refused(BadSleight(0), Craft, 3, GESTURES, ((name, "pass", (), 1, ()),))

    def test_gestures(self):
        for name in NO_STRINGS + ("", "keep", "passs", "pas"):
            self.refused(BadSleight(0), Craft, 3, GESTURES, (("keep", name, (), 1, ()),))

    def test_deeds(self):
        for deed in NO_TUPLES + ((("a", 0, 3),), (("a", 0, 1),) * 4, (("a", True, 0),)):
            self.refused(BadSleight(0), Craft, 3, GESTURES, (("keep", "pass", deed, 1, ()),))

    def test_prices(self):
        for price in range(1, 10):
            self.assertEqual(Craft(3, GESTURES, (("keep", "pass", (), price, ()),)).price_of("pass", "keep"), price)
        for price in NO_INTEGERS + (-1, 0, 10, 10 ** 39):
            self.refused(BadSleight(0), Craft, 3, GESTURES, (("keep", "pass", (), price, ()),))

    def test_spots(self):
        craft = Craft(3, GESTURES, (("keep", "pass", (), 1, [0, 1, 2, 3]),))
        self.assertEqual(craft.spots_of("pass", "keep"), (0, 1, 2, 3))
        for spots in NO_TUPLES + ((4,), (-1,), (1, 1), (3, 0), (True,), (0, True), (None,)):
            self.refused(BadSleight(0), Craft, 3, GESTURES, (("keep", "pass", (), 1, spots),))

    def test_eight_and_nine(self):
        self.assertEqual(len(Craft(2, gestures_of(1), sleights_of(8)).sleights), 8)
        self.refused(TooMany("sleight"), Craft, 2, gestures_of(1), sleights_of(9))
        self.refused(TooMany("sleight"), Craft, 2, gestures_of(1), sleights_of(8) + sleights_of(1))
        self.refused(BadSleight(8), Craft, 2, gestures_of(1), sleights_of(8) + (None,))

    def test_twice(self):
        one, two = sleights_of(2)
        self.refused(Twice("b"), Craft, 2, gestures_of(3), (one, two, ("b", "c", (), 2, ()), one))
        self.refused(Twice("a"), Craft, 2, gestures_of(3), (one, two, one, two))

    def test_what_is_let(self):
        craft = Craft(2, (PASS,), (("pass", "pass", PASS[1], 9, (2,)),))
        self.assertEqual(craft.manners_of("pass"), ("", "pass"))

    def test_order_of_errors(self):
        self.refused(BadSize(1), Craft, 1, (), None)
        self.refused(BadGesture(-1), Craft, 2, (), None)
        self.refused(Twice("a"), Craft, 2, gestures_of(1) * 2, (None,))
        self.refused(BadSleight(0), Craft, 2, gestures_of(1), (None,) * 9)


class TestCraft(Case):

    def setUp(self):
        self.craft = Craft(3, GESTURES, SLEIGHTS)

    def test_the_example_of_the_document(self):
        self.assertEqual(coin_craft(), self.craft)

    def test_honest(self):
        self.assertEqual(Craft.HONEST, "")
        self.assertEqual(self.craft.HONEST, "")

    def test_face(self):
        for size in range(2, 7):
            self.assertEqual(Craft(size, gestures_of(1)).face, size)

    def test_arts(self):
        self.assertEqual(self.craft.arts, ("keep", "load"))
        self.assertEqual(Craft(3, GESTURES, (LOAD, KEEP)).arts, ("keep", "load"))
        self.assertEqual(Craft(3, GESTURES).arts, ())

    def test_contains(self):
        for name in ("pass", "open", "reach"):
            self.assertIs(name in self.craft, True)
        for name in NO_STRINGS + ("", "keep", "load", "a", PASS, list(PASS)):
            self.assertIs(name in self.craft, False)

    def test_length_and_iteration(self):
        self.assertEqual(len(self.craft), 3)
        self.assertEqual(list(self.craft), list(GESTURES))
        self.assertEqual(tuple(self.craft), self.craft.gestures)

    def test_equal(self):
        self.assertIs(self.craft == Craft(3, as_lists(GESTURES), as_lists(SLEIGHTS)), True)
        self.assertIs(self.craft != Craft(3, GESTURES, SLEIGHTS), False)
        for other in (Craft(4, GESTURES, SLEIGHTS), Craft(3, (OPEN, PASS, REACH), SLEIGHTS),
                      Craft(3, GESTURES, (LOAD, KEEP)), Craft(3, GESTURES), Craft(3, (PASS, OPEN), SLEIGHTS)):
            self.assertIs(self.craft == other, False)
            self.assertIs(self.craft != other, True)

    def test_equal_with_other_kinds(self):
        for thing in (None, 3, "", (3, GESTURES, SLEIGHTS), GESTURES, EqualToAll()):
            self.assertIs(self.craft == thing, False)

    def test_meanings_and_places(self):
        self.assertEqual(self.craft.meaning_of("pass"), (("a", 0, 1),))
        self.assertEqual(self.craft.meaning_of("open"), ())
        self.assertEqual(self.craft.places_of("pass"), ())
        self.assertEqual(self.craft.places_of("reach"), (0,))

    def test_manners(self):
        self.assertEqual(self.craft.manners_of("pass"), ("", "keep"))
        self.assertEqual(self.craft.manners_of("reach"), ("",))
        craft = Craft(2, gestures_of(2), (("z", "a", (), 1, ()), ("b", "b", (), 1, ()), ("a", "a", (), 1, ())))
        self.assertEqual(craft.manners_of("a"), ("", "z", "a"))
        self.assertEqual(craft.manners_of("b"), ("", "b"))

    def test_ways(self):
        self.assertEqual(self.craft.deed_of("pass", ""), (("a", 0, 1),))
        self.assertEqual(self.craft.deed_of("pass", "keep"), ())
        self.assertEqual(self.craft.deed_of("open", "load"), (("a", 2, 1),))
        self.assertEqual(self.craft.price_of("open", ""), 0)
        self.assertEqual(self.craft.price_of("open", "load"), 5)
        self.assertEqual(self.craft.spots_of("open", ""), ())
        self.assertEqual(self.craft.spots_of("open", "load"), (1, 3))

    def test_no_gesture(self):
        for name in NO_STRINGS + ("", "keep", "opens", "OPEN"):
            for call in (self.craft.meaning_of, self.craft.places_of, self.craft.manners_of):
                self.refused(NoGesture(name), call, name)
            for call in (self.craft.deed_of, self.craft.price_of, self.craft.spots_of):
                self.refused(NoGesture(name), call, name, None)
            self.refused(NoGesture(name), self.craft.stroke, ("", "", ""), name, None)

    def test_no_manner(self):
        for manner in NO_STRINGS + ("load", "pass", "-", "keeps"):
            for call in (self.craft.deed_of, self.craft.price_of, self.craft.spots_of):
                self.refused(NoManner(manner), call, "pass", manner)
            self.refused(NoManner(manner), self.craft.stroke, ("", "", ""), "pass", manner)


class TestStroke(Case):

    def setUp(self):
        self.craft = Craft(3, GESTURES + (("both", (("~", 0, 2),), (0, 2)),), SLEIGHTS)

    def test_honest(self):
        self.assertEqual(self.craft.stroke(("a", "", ""), "pass"), (("", "a", ""), ()))
        self.assertEqual(self.craft.stroke(("a", "", ""), "pass", ""), (("", "a", ""), ()))
        self.assertEqual(self.craft.stroke(("b", "ab", ""), "open"), (("b", "ab", ""), ("ab",)))

    def test_the_sight_is_that_behind_the_stroke(self):
        self.assertEqual(self.craft.stroke(("a", "", "a"), "open", "load"), (("a", "a", ""), ("a",)))
        self.assertEqual(self.craft.stroke(("a", "b", "cc"), "both"), (("cc", "b", "a"), ("cc", "a")))

    def test_a_sleight(self):
        self.assertEqual(self.craft.stroke(("a", "", ""), "pass", "keep"), (("a", "", ""), ()))
        self.assertEqual(self.craft.stroke(("a", "", ""), "pass", manner="keep"), (("a", "", ""), ()))

    def test_what_cannot_be_done(self):
        self.assertIsNone(self.craft.stroke(("", "", ""), "pass"))
        self.assertIsNone(self.craft.stroke(("a", "a", ""), "open", "load"))

    def test_lists(self):
        world = ["a", "", "a"]
        told = self.craft.stroke(world, "open", "load")
        self.assertEqual(told, (("a", "a", ""), ("a",)))
        self.assert_plain(told)
        self.assert_plain(self.craft.stroke(world, "open"))
        self.assertEqual(world, ["a", "", "a"])

    def test_bad_worlds(self):
        for world in NO_TUPLES + (("", ""), ("",) * 4, ["ba", "", ""], ("a", None, ""), ("aaa",) * 3, (True, "", "")):
            self.refused(BadWorld(world), self.craft.stroke, world, "nothing", None)

    def test_order_of_errors(self):
        self.refused(BadWorld(("",)), self.craft.stroke, ("",), "a", "a")
        self.refused(NoGesture("a"), self.craft.stroke, ("", "", ""), "a", "a")
        self.refused(NoManner("a"), self.craft.stroke, ("", "", ""), "open", "a")


class TestWithout(Case):

    def setUp(self):
        self.craft = Craft(3, GESTURES, SLEIGHTS)

    def test_some(self):
        self.assertEqual(self.craft.without("keep"), Craft(3, GESTURES, (LOAD,)))
        self.assertEqual(self.craft.without("load", "keep"), Craft(3, GESTURES))
        self.assertEqual(self.craft.without("load", "load"), Craft(3, GESTURES, (KEEP,)))
        self.assertEqual(self.craft.sleights, SLEIGHTS)

    def test_none(self):
        self.assertEqual(self.craft.without(), self.craft)

    def test_no_sleight(self):
        for name in NO_STRINGS + ("", "pass", "keeps"):
            self.refused(NoSleight(name), self.craft.without, "keep", name, None)
