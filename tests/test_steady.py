from shownempty.errors import TooMany
from shownempty.forces import Force, ForceGame
from shownempty.steady import steady
from tests.forcehelp import ONE_MORE, some_forces, stages_of, steady_of
from tests.helpers import Case
from tests.test_forces import ALL, CARDS, HALVES, OTHERS

TWO = ((0,), (1,))


def both(*numbers):
    """A force whose questions have so many parts each, all of which may be read in both ways."""
    return Force(8, ((0,),), [("abcdef"[k], [(thing,) for thing in range(number)], "both")
                              for k, number in enumerate(numbers)])


class TestSteady(Case):

    def test_steady(self):
        told = steady(CARDS)
        self.assertEqual(told, (2, (("keep", "drop"), ("keep", "drop"))))
        self.assert_plain(told)

    def test_done_at_once(self):
        # All of them reach it: "drop" is less than "keep".
        force = Force(2, ((0, 1),), (("all", TWO, "both"), ("some", TWO, "keep")))
        self.assertEqual(steady(force), (0, (("drop", "drop"), ("keep", "keep"))))

    def test_readings_that_are_let(self):
        self.assertEqual(steady(Force(2, ((0,), (1,)), (("all", TWO, "keep"),))), (1, (("keep", "keep"),)))
        self.assertEqual(steady(Force(2, ((0,), (1,)), (("all", TWO, "drop"),))), (1, (("drop", "drop"),)))
        self.assertEqual(steady(Force(2, ((0,), (1,)), (("all", TWO, "both"),))), (1, (("drop", "drop"),)))
        self.assertEqual(steady(Force(2, ((1,),), (("all", TWO, "both"),))), (1, (("drop", "keep"),)))

    def test_none(self):
        self.assertIsNone(steady(Force(2, ((1,),), (("all", TWO, "keep"),))))
        self.assertIsNone(steady(Force(4, ((0,),), (HALVES[:2] + ("keep",), OTHERS))))

    def test_it_can_be_dearer_than_with_free_readings(self):
        # In the first half the other question must be read in one way, in the second half in the other way.
        half, other = ("half", ((0, 1), (2, 3)), "keep"), ("other", ((0, 2), (1, 3)), "both")
        force = Force(4, ((0,), (3,)), (half, other))
        self.assertEqual((ForceGame(force).least, steady(force)), (2, None))
        # In the second half two more questions help as well.
        half, other = ("half", ((0, 1), (2, 3, 4)), "keep"), ("other", ((0, 2, 4), (1, 3)), "both")
        force = Force(5, ((0,), (3,)), (half, other, ("low", ((2,), (3,)), "both"), ("high", ((3,), (4,)), "both")))
        readings = (("keep", "keep"), ("keep", "drop"), ("drop", "keep"), ("keep", "drop"))
        self.assertEqual((ForceGame(force).least, steady(force)), (2, (3, readings)))

    def test_it_is_never_less_than_the_value(self):
        for force, _ in some_forces(200, 133):
            least = ForceGame(force).least
            try:
                told = steady(force)
            except TooMany:
                continue
            self.assertTrue(told is None or 0 <= least <= told[0])

    def test_256_and_more(self):
        for numbers in ((4, 4), (2, 2, 2, 2), (2, 3, 3), (4, 2, 2)):
            self.assertEqual(steady(both(*numbers)), steady_of(both(*numbers)))
        for numbers in ((4, 4, 2), (3, 3, 3), (4, 3, 2), (2, 2, 2, 3), (2, 2, 2, 2, 2)):
            self.refused(TooMany("reading"), steady, both(*numbers))
        # Questions with one reading are not counted.
        force = Force(4, ((0,),), (("a", ((0, 1), (2,), (3,)), "keep"), ("b", ((0,), (1,), (2,), (3,)), "both"),
                                   ("c", ((0, 2), (1,), (3,)), "drop"), ("d", ((0,), (1,), (2,), (3,)), "both")))
        self.assertEqual(steady(force), steady_of(force))

    def test_no_stages_are_too_many(self):
        self.refused(TooMany("stage"), ForceGame, ONE_MORE)
        # Two parts less make 128 readings.
        questions = ONE_MORE.questions[:4] + (ONE_MORE.questions[4][:2] + ("keep",), ONE_MORE.questions[5])
        force = Force(8, ((0,),), questions)
        self.assertEqual(steady(force), steady_of(force))

    def test_many_forces(self):
        told = set()
        for force, _ in some_forces(250, 134):
            try:
                found = steady(force)
            except TooMany:
                parts = [len(parts) for _, parts, word in force.questions if word == "both"]
                self.assertGreater(2 ** sum(parts), 256)
                continue
            self.assertEqual(found, steady_of(force))
            told.add(found and found[0])
        self.assertLessEqual({None, 0, 1, 2}, told)

    def test_all_stages_of_a_steady_force_are_those_of_the_force(self):
        lets = [[(reading,) for reading in row] for row in steady(CARDS)[1]]
        self.assertIn((ALL, (0, 1)), stages_of(CARDS, lets))
