from shownempty.errors import BadEye, BadEyes, BadHabit, NoGesture, NoManner, Twice
from shownempty.habits import Habits
from tests.helpers import NO_INTEGERS, NO_STRINGS, NO_TUPLES, Case, as_lists, coin_craft, spoil

# Under the pass eyes go to the hand that is left, or on to the other one; under the opening all go to the hand 1.
PASSING = ("pass", ((0, 1), (1,), (1, 2, 3), (3,)))
OPENING = ("open", ((1,), (1,), (1,), (1,)))
BAD_EYE_LOTS = NO_TUPLES + ((), (1, 0), (0, 0), (4,), (-1,), (0, None), (0, True), (False,), ("0",), ((0,),), [1, 4])
NO_GESTURES = NO_STRINGS + ("", "keep", "load", "passing", "Pass")


class TestHabits(Case):

    def setUp(self):
        self.habits = Habits(coin_craft(), (PASSING, OPENING))

    def test_behind(self):
        self.assertEqual([self.habits.behind("pass", eye) for eye in range(4)], [(0, 1), (1,), (1, 2, 3), (3,)])
        self.assertEqual([self.habits.behind("open", eye) for eye in range(4)], [(1,)] * 4)

    def test_under_other_gestures_eyes_stay(self):
        self.assertEqual([self.habits.behind("reach", eye) for eye in range(4)], [(0,), (1,), (2,), (3,)])
        self.assertEqual(Habits(coin_craft(), ()).behind("pass", 3), (3,))
        self.assertEqual(self.habits.spread("reach", (0, 2)), (0, 2))

    def test_spread(self):
        for eyes, behind in (((0,), (0, 1)), ((0, 2), (0, 1, 2, 3)), ([2, 3], (1, 2, 3)), ((0, 1, 2, 3), (0, 1, 2, 3)),
                             ((1, 3), (1, 3))):
            self.assertEqual(self.habits.spread("pass", eyes), behind)
        self.assertEqual(self.habits.spread("open", (0, 2, 3)), (1,))

    def test_safe_places(self):
        # The pass is kept at the spot 0, the load is seen at 1 and from the face.
        self.assertEqual([self.habits.is_safe("pass", "keep", eye) for eye in range(4)], [False, True, True, True])
        self.assertEqual([self.habits.is_safe("open", "load", eye) for eye in range(4)], [False] * 4)
        self.assertEqual([self.habits.is_safe("open", "", eye) for eye in range(4)], [True] * 4)
        habits = Habits(coin_craft(), ())
        self.assertEqual([habits.is_safe("open", "load", eye) for eye in range(4)], [True, False, True, False])

    def test_attributes(self):
        craft, rules = coin_craft(), as_lists((PASSING, OPENING))
        habits = Habits(rules=rules, craft=craft)
        spoil(rules)
        self.assertIs(habits.craft, craft)
        self.assertEqual(habits.rules, (PASSING, OPENING))
        self.assert_plain(habits.rules)
        self.assertEqual(habits.behind("pass", 2), (1, 2, 3))
        self.assert_plain(habits.behind("pass", 2))

    def test_equal(self):
        self.assertTrue(self.habits == Habits(coin_craft(), [list(PASSING), OPENING]))
        # The rules are compared as they are told, not by what they do.
        others = [Habits(coin_craft(), (OPENING, PASSING)), Habits(coin_craft(), (PASSING,)),
                  Habits(coin_craft().without("keep"), (PASSING, OPENING)),
                  Habits(coin_craft(), (PASSING, OPENING, ("reach", ((0,), (1,), (2,), (3,)))))]
        for other in others + [(PASSING, OPENING), None, 1, "", coin_craft()]:
            self.assertIs(self.habits == other, False)
            self.assertIs(self.habits != other, True)

    def test_no_rules(self):
        for rules in ((), []):
            self.assertEqual(Habits(coin_craft(), rules).rules, ())

    def test_bad_habits(self):
        for rules in NO_TUPLES:
            self.refused(BadHabit(-1), Habits, coin_craft(), rules)
        for rule in self.bad_rules():
            self.refused(BadHabit(0), Habits, coin_craft(), (rule,))
            self.refused(BadHabit(1), Habits, coin_craft(), (PASSING, rule, rule))
            # Only when each rule has the form, names that come twice are looked for.
            self.refused(BadHabit(2), Habits, coin_craft(), [PASSING, PASSING, rule])

    def bad_rules(self):
        rows = PASSING[1]
        rules = [(), ("pass",), PASSING + (1,), "ab", ("pass", rows[:3]), ("pass", rows + ((0,),)), ("pass", ())]
        rules.extend([(name, rows) for name in NO_GESTURES] + [("pass", thing) for thing in NO_TUPLES])
        rules.extend([("pass", rows[:3] + (lot,)) for lot in BAD_EYE_LOTS])
        rules.extend([("pass", (lot,) + rows[1:]) for lot in BAD_EYE_LOTS])
        return rules + list(NO_TUPLES)

    def test_twice(self):
        self.refused(Twice("pass"), Habits, coin_craft(), (PASSING, OPENING, PASSING, OPENING))
        self.refused(Twice("open"), Habits, coin_craft(), (PASSING, OPENING, OPENING, PASSING))

    def test_errors_of_behind_and_spread(self):
        for name in NO_GESTURES:
            self.refused(NoGesture(name), self.habits.behind, name, 9)
            self.refused(NoGesture(name), self.habits.spread, name, 9)
            self.refused(NoGesture(name), self.habits.is_safe, name, 9, 9)
        for eye in NO_INTEGERS + (-1, 4, 10 ** 39):
            self.refused(BadEye(eye), self.habits.behind, "pass", eye)
            self.refused(BadEye(eye), self.habits.behind, "reach", eye)
            self.refused(BadEye(eye), self.habits.is_safe, "pass", "keep", eye)
            self.refused(BadEye(eye), self.habits.is_safe, "pass", "", eye)
        for eyes in BAD_EYE_LOTS:
            self.refused(BadEyes(eyes), self.habits.spread, "pass", eyes)
            self.refused(BadEyes(eyes), self.habits.spread, "reach", eyes)
        for manner in NO_STRINGS + ("load", "open", "pass"):
            self.refused(NoManner(manner), self.habits.is_safe, "pass", manner, 9)

    def test_what_is_passed_is_not_changed(self):
        eyes = [0, 2]
        self.habits.spread("pass", eyes)
        self.assertEqual(eyes, [0, 2])
