import random

from shownempty.errors import BadEyes, NoGesture, NoManner
from shownempty.gaze import Aside, Gaze, rehearsed
from shownempty.habits import Habits
from tests.helpers import NO_STRINGS, Case, as_lists, coin_craft, spoil
from tests.test_habits import BAD_EYE_LOTS, NO_GESTURES, PASSING
from tests.test_waiting import RULES


class Stop(Exception):
    pass


class TestGaze(Case):

    def setUp(self):
        self.habits = Habits(coin_craft(), (PASSING,))
        self.gaze = Gaze(self.habits, (0,))

    def test_see(self):
        self.assertEqual(self.gaze.see("pass"), (0, 1))
        self.assertEqual(self.gaze.lot, (0, 1))
        self.gaze.lot = [0, 2]
        self.assertEqual(self.gaze.lot, (0, 2))
        self.assertEqual(self.gaze.see("reach", "pass", "pass"), (0, 1, 2, 3))
        self.assertEqual(self.gaze.see(), (0, 1, 2, 3))
        self.assert_plain(self.gaze.lot)

    def test_errors_change_nothing(self):
        for name in NO_GESTURES:
            self.refused(NoGesture(name), self.gaze.see, "pass", name, None)
            self.assertEqual(self.gaze.lot, (0,))
        for lot in BAD_EYE_LOTS:
            self.refused(BadEyes(lot), setattr, self.gaze, "lot", lot)
            self.refused(BadEyes(lot), Gaze, self.habits, lot)
            self.assertEqual(self.gaze.lot, (0,))

    def test_safe_for(self):
        gaze = Gaze(Habits(coin_craft(), RULES), (0, 2))
        self.assertIs(gaze.safe_for("open", "load"), True)
        self.assertIs(gaze.safe_for("open", ""), True)
        for lot in ((0, 1), (3,), (0, 2, 3), (0, 1, 2, 3)):
            gaze.lot = lot
            self.assertIs(gaze.safe_for("open", "load"), False)
            self.assertIs(gaze.safe_for("open", ""), True)

    def test_errors_of_safe_for(self):
        for name in NO_GESTURES:
            self.refused(NoGesture(name), self.gaze.safe_for, name, 9)
        for manner in NO_STRINGS + ("load", "pass"):
            self.refused(NoManner(manner), self.gaze.safe_for, "pass", manner)

    def test_attributes(self):
        lot = [1, 2]
        gaze = Gaze(lot=lot, habits=self.habits)
        spoil(lot)
        self.assertIs(gaze.habits, self.habits)
        self.assertEqual(gaze.lot, (1, 2))

    def test_copy(self):
        self.gaze.see("pass")
        other = self.gaze.copy()
        self.assertIs(type(other), Gaze)
        self.assertIs(other.habits, self.habits)
        self.assertTrue(other == self.gaze)
        other.lot = (3,)
        self.assertEqual((self.gaze.lot, other.lot), ((0, 1), (3,)))
        self.gaze.see("pass", "pass")
        self.assertEqual(other.lot, (3,))

    def test_equal(self):
        self.assertIs(self.gaze == Gaze(Habits(coin_craft(), [list(PASSING)]), [0]), True)
        for other in (Gaze(self.habits, (1,)), Gaze(Habits(coin_craft(), ()), (0,)), (0,), None, self.habits):
            self.assertIs(self.gaze == other, False)
            self.assertIs(self.gaze != other, True)
        self.gaze.lot = (1,)
        self.assertTrue(self.gaze == Gaze(self.habits, (1,)))


class TestAside(Case):

    def setUp(self):
        self.gaze = Gaze(Habits(coin_craft(), (PASSING,)), (0,))

    def test_the_gaze_is_what_it_was(self):
        with Aside(self.gaze) as held:
            self.assertIs(held, self.gaze)
            self.assertEqual(held.see("pass"), (0, 1))
            self.gaze.lot = (2, 3)
            self.assertEqual(held.lot, (2, 3))
        self.assertEqual(self.gaze.lot, (0,))

    def test_errors_go_on(self):
        with self.assertRaises(Stop):
            with Aside(self.gaze) as held:
                held.lot = (3,)
                raise Stop
        self.assertEqual(self.gaze.lot, (0,))

    def test_the_habits_are_what_they_were(self):
        habits = self.gaze.habits
        with Aside(self.gaze):
            self.gaze.habits = Habits(coin_craft(), ())
            self.assertEqual(self.gaze.see("pass"), (0,))
        self.assertIs(self.gaze.habits, habits)

    def test_within_one_another(self):
        with Aside(self.gaze):
            self.gaze.lot = (1,)
            with Aside(self.gaze):
                self.gaze.lot = (2,)
                with Aside(self.gaze):
                    self.gaze.lot = (3,)
                self.assertEqual(self.gaze.lot, (2,))
            self.assertEqual(self.gaze.lot, (1,))
        self.assertEqual(self.gaze.lot, (0,))

    def test_used_again(self):
        aside = Aside(self.gaze)
        for eye in (1, 2, 3):
            with aside:
                self.gaze.lot = (0, eye)
            self.assertEqual(self.gaze.lot, (0,))
        self.gaze.lot = (2,)
        with aside:
            self.gaze.lot = (3,)
        self.assertEqual(self.gaze.lot, (2,))

    def test_used_within_its_own_block(self):
        aside = Aside(self.gaze)
        with aside:
            self.gaze.lot = (1,)
            with aside as held:
                self.assertIs(held, self.gaze)
                self.gaze.lot = (2,)
                try:
                    with aside:
                        self.gaze.lot = (3,)
                        raise Stop
                except Stop:
                    self.assertEqual(self.gaze.lot, (2,))
            self.assertEqual(self.gaze.lot, (1,))
        self.assertEqual(self.gaze.lot, (0,))

    def test_left_by_return(self):
        def shown():
            with Aside(self.gaze) as held:
                return held.see("pass")
        self.assertEqual((shown(), self.gaze.lot), ((0, 1), (0,)))


class TestRehearsed(Case):

    def setUp(self):
        self.gaze = Gaze(Habits(coin_craft(), (PASSING,)), (0,))

    def test_deeds(self):
        told = rehearsed(self.gaze, (("see", "pass"), ("set", (2,)), ("see", "reach"), ("see", "pass")))
        self.assertEqual(told, ((0, 1), (2,), (2,), (1, 2, 3)))
        self.assertEqual(self.gaze.lot, (0,))
        self.assert_plain(told)

    def test_none(self):
        self.assertEqual(rehearsed(self.gaze, ()), ())
        self.assertEqual(rehearsed(self.gaze, (("aside", ()), ("aside", (("aside", ()),)))), ((), ((),)))

    def test_asides(self):
        deeds = (("see", "pass"), ("aside", (("set", [3]), ("aside", (("set", (1, 2)),)), ("see", "pass"))),
                 ("see", "reach"))
        expected = ((0, 1), ((3,), ((1, 2),), (3,)), (0, 1))
        self.assertEqual(rehearsed(self.gaze, deeds), expected)
        lists = as_lists(deeds)
        self.assertEqual(rehearsed(self.gaze, lists), expected)
        self.assertEqual(lists, as_lists(deeds))
        self.assertEqual(self.gaze.lot, (0,))

    def test_errors_leave_the_gaze_as_it_was(self):
        for lot in BAD_EYE_LOTS:
            self.refused(BadEyes(lot), rehearsed, self.gaze, (("see", "pass"), ("set", lot)))
            self.assertEqual(self.gaze.lot, (0,))
        for name in NO_GESTURES:
            deeds = (("set", (3,)), ("aside", (("set", (1,)), ("see", name))), ("set", (9,)))
            self.refused(NoGesture(name), rehearsed, self.gaze, deeds)
            self.assertEqual(self.gaze.lot, (0,))
            with Aside(self.gaze):
                self.gaze.lot = (2,)
                self.refused(NoGesture(name), rehearsed, self.gaze, deeds)
                self.assertEqual(self.gaze.lot, (2,))
            self.assertEqual(self.gaze.lot, (0,))

    def test_8_within_one_another_and_60_deeds(self):
        deeds, expected = (("see", "pass"),), ((0, 1),)
        for _ in range(8):
            deeds, expected = (("aside", deeds),), (expected,)
        self.assertEqual(rehearsed(self.gaze, deeds), expected)
        deeds = tuple([("set", (k % 4,)) for k in range(60)])
        self.assertEqual(rehearsed(self.gaze, deeds), tuple([(k % 4,) for k in range(60)]))

    def test_many(self):
        rng = random.Random(5)
        for _ in range(100):
            deeds = self.some_deeds(rng, 4)
            gaze = self.gaze.copy()
            self.assertEqual(rehearsed(self.gaze, deeds), self.by_hand(gaze, deeds))
            self.assertEqual(self.gaze.lot, (0,))

    def some_deeds(self, rng, depth):
        deeds = []
        for _ in range(rng.randint(0, 4)):
            what = rng.choice(("see", "set", "aside") if depth else ("see", "set"))
            worth = {"see": rng.choice(("pass", "open")), "set": tuple(sorted(rng.sample(range(4), 2)))}.get(what)
            deeds.append((what, worth or self.some_deeds(rng, depth - 1)))
        return tuple(deeds)

    def by_hand(self, gaze, deeds):
        """What is told for the deeds, done with a copy for each aside."""
        told = []
        for what, worth in deeds:
            if what == "aside":
                told.append(self.by_hand(gaze.copy(), worth))
            else:
                gaze.lot = worth if what == "set" else gaze.habits.spread(worth, gaze.lot)
                told.append(gaze.lot)
        return tuple(told)
