import itertools

from shownempty.borne import borne, exercises
from shownempty.craft import Craft
from shownempty.errors import BadWorld, TooMany, Unlike
from shownempty.making import Making
from shownempty.plots import Plot
from shownempty.risks import Risks
from shownempty.slipgames import SlipGame
from tests.helpers import NO_TUPLES, Case, coin_craft
from tests.sliphelp import lost_positions, many_positions, slippery_games, some_games
from tests.test_slipgames import HERE, LOOKS, PALM

BAD_STARTS = NO_TUPLES + (("a", "", ""), ("a",), ["ba", ""], (True, ""), ("aaaaa", "aaaa"), (None, ""))


def is_sound(plot, risks, start, most):
    return (0, start, 0) not in lost_positions(plot, risks, start, most)


def borne_of(plot, risks, start):
    if is_sound(plot, risks, start, None):
        return None
    return max([number for number in range(4) if is_sound(plot, risks, start, number)], default=-1)


def exercises_of(plot, risks, start):
    found = []
    for number in range(len(risks.risky) + 1):
        for lot in itertools.combinations(risks.risky, number):
            left = Risks(risks.craft, [fail for fail in risks.fails if fail[0] not in lot])
            if not any(set(small) <= set(lot) for small in found) and is_sound(plot, left, start, None):
                found.append(lot)
    return tuple(found)


def looks(number):
    """A plot in which the thing shall be seen at one of so many looks."""
    cues = [("show", "look", ((("a",), number), (("",), k + 1))) for k in range(number - 1)]
    return Plot(PALM, cues + [("show", "look", ((("a",), number),)), ("end", (None, "a"))])


class TestBorne(Case):

    def setUp(self):
        self.risks = Risks(PALM, (("palm", ()),))

    def test_borne(self):
        self.assertEqual([borne(looks(number), self.risks, HERE) for number in (1, 2, 3, 4)], [0, 1, 2, 3])
        self.assertEqual(borne(Plot(PALM, LOOKS), self.risks, list(HERE)), 2)

    def test_not_even_none(self):
        self.assertEqual(borne(looks(3), self.risks, ("", "")), -1)
        self.assertEqual(borne(Plot(PALM, (("end", ("", None)),)), self.risks, HERE), -1)

    def test_more_than_three_but_not_any_number(self):
        # It would bear 4 and 9; no more than 3 is told.
        self.assertEqual([borne(looks(number), self.risks, HERE) for number in (5, 10)], [3, 3])

    def test_any_number(self):
        self.assertEqual(borne(looks(3), Risks(PALM, ()), HERE), None)
        self.assertEqual(borne(looks(3), Risks(PALM, (("palm", (("b", 0, 1),)),)), HERE), None)
        self.assertEqual(borne(looks(3), Risks(PALM, (("palm", (("a", 0, 1),)),)), HERE), None)
        # Behind a slip the guests may ask for another look, again and again.
        plot = Plot(PALM, (("show", "look", ((("a",), 2), (("",), 1))), ("ask", 0, 0), ("end", (None, "a"))))
        self.assertEqual(borne(plot, self.risks, HERE), None)

    def test_errors_in_their_order(self):
        other = Risks(coin_craft(), ())
        for call in (borne, exercises):
            self.refused(Unlike("craft"), call, looks(3), other, None)
            for start in BAD_STARTS:
                self.refused(BadWorld(start), call, looks(3), self.risks, start)
        # TooMany comes behind them.
        plot, risks, _ = many_positions(11, 15, ())
        self.refused(BadWorld(("",)), borne, plot, risks, ("",))

    def test_too_many_positions(self):
        # With at most 3 slips there are too many, with any number there are not. It is lost even with none.
        plot, risks, start = many_positions(11, 15, ())
        self.assertEqual(SlipGame(plot, risks, start, 0).least, -2)
        self.assertEqual([len(SlipGame(plot, risks, start, most)) for most in (0, 1, 2, None)], [501, 1001, 1500, 501])
        self.refused(TooMany("position"), borne, plot, risks, start)
        self.assertEqual(borne(*many_positions(11, 10, ())), -1)
        self.assertEqual(exercises(plot, risks, start), ())

    def test_too_many_with_any_number_alone(self):
        # With up to 3 slips few things have gone over; with any number they lie wherever they can.
        steps = [("".join(("s", "abcde"[place])), (("a", place, place + 1),)) for place in range(5)]
        craft = Craft(6, (("nod", (), ()),), [(name, "nod", (), 1, ()) for name, _ in steps])
        plot = Plot(craft, [("show", "nod", (((), k + 1),)) for k in range(59)] + [("end", (None,) * 6)])
        risks, start = Risks(craft, steps), ("aaaaaaaa", "", "", "", "", "")
        self.assertEqual([len(SlipGame(plot, risks, start, most)) for most in (0, 3)], [60, 60 + 59 + 2 * 58 + 3 * 57])
        self.refused(TooMany("position"), SlipGame, plot, risks, start, None)
        self.refused(TooMany("position"), borne, plot, risks, start)
        self.refused(TooMany("position"), exercises, plot, risks, start)
        # It is due for the risks as they are alone.
        self.assertEqual(exercises(plot, risks.practised("sb"), start), ((),))

    def test_many_games(self):
        told = set()
        for games in (some_games(300, 76), slippery_games(300, 76)):
            for plot, risks, start, _ in games:
                found = borne(plot, risks, start)
                self.assertEqual(found, borne_of(plot, risks, start))
                self.assertEqual(found == -1, not Making(plot, start))
                told.add(found)
        self.assertEqual(told, {-1, 0, 1, 2, 3, None})


class TestExercises(Case):

    def test_exercises(self):
        risks = Risks(PALM, (("palm", ()),))
        told = exercises(looks(3), risks, HERE)
        self.assertEqual(told, (("palm",),))
        self.assert_plain(told)
        self.assertEqual(exercises(looks(3), risks, list(HERE)), told)

    def test_nothing_needs_to_be_practised(self):
        self.assertEqual(exercises(looks(3), Risks(PALM, ()), HERE), ((),))
        self.assertEqual(exercises(looks(3), Risks(PALM, (("palm", (("a", 0, 1),)),)), HERE), ((),))
        self.assertEqual(exercises(Plot(PALM, (("end", HERE),)), Risks(PALM, (("palm", ()),)), HERE), ((),))

    def test_lost_even_with_all_of_them(self):
        self.assertEqual(exercises(looks(3), Risks(PALM, (("palm", ()),)), ("", "")), ())

    def test_the_order_of_the_lots(self):
        # Either "c" is made sure, or "a" and "b".
        craft = Craft(3, (("one", (), ()), ("two", (), ())),
                      (("c", "one", (("z", 0, 2),), 1, ()), ("b", "one", (("z", 0, 1),), 1, ()),
                       ("a", "two", (("z", 1, 2),), 1, ())))
        plot = Plot(craft, (("show", "one", (((), 1),)), ("show", "two", (((), 2),)), ("end", (None, None, "z"))))
        risks = Risks(craft, (("c", ()), ("b", ()), ("a", ())))
        self.assertEqual(exercises(plot, risks, ("z", "", "")), (("c",), ("a", "b")))
        # A sleight that never slips need not be practised, and cannot be.
        self.assertEqual(exercises(plot, Risks(craft, (("c", ()), ("a", ()))), ("z", "", "")), (("a",), ("c",)))
        self.assertEqual(exercises(plot, Risks(craft, (("b", ()), ("a", ()))), ("z", "", "")), ((),))

    def test_it_bears_any_number_once_they_are_practised(self):
        for plot, risks, start, _ in some_games(200, 77):
            for lot in exercises(plot, risks, start):
                self.assertIsNone(borne(plot, risks.practised(*lot), start))

    def test_many_games(self):
        told = set()
        for games in (some_games(300, 78), slippery_games(300, 78)):
            for plot, risks, start, _ in games:
                found = exercises(plot, risks, start)
                self.assertEqual(found, exercises_of(plot, risks, start))
                told.add(tuple(len(lot) for lot in found))
        self.assertLessEqual({(), (0,), (1,), (1, 1)}, told)
