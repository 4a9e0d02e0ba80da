import itertools

from shownempty.acts import Act
from shownempty.craft import Craft
from shownempty.errors import BadHeld, BadKnown, BadLength, BadWorld, TooMany
from shownempty.fillings import Fillings
from shownempty.plays import show_of
from shownempty.showings import fewest_showings
from tests.acthelp import rich_plays, some_guest
from tests.helpers import NO_INTEGERS, NO_STRINGS, NO_TUPLES, Case, coin_act, coin_craft
from tests.test_fillings import many_fillings
from tests.test_standings import BAD_WORLDS

END = ("end",)
COIN = ("a", "", "")
PASSED = ("", "a", "")
# Each answer shows another place.
CRAFT = Craft(3, tuple([(name, (), (place,)) for place, name in enumerate(("left", "right", "third"))]))
LOOKING = Act(CRAFT, (("ask", 1, 4), ("do", "left", ""), ("ask", 3, 3), END, ("ask", 5, 7), ("do", "right", ""), END,
                      ("do", "third", ""), END))


def tree_of_asks():
    """An act that asks three times, then does one of eight strokes, its start, and what one knows beneath them."""
    craft = Craft(2, (("show", (), (1,)),), (("put", "show", (("a", 0, 1),), 1, ()),))
    cues = [("ask", 2 * k + 1, 2 * k + 2) for k in range(3)]
    cues.extend([("ask", 7 + 4 * k, 9 + 4 * k) for k in range(4)])
    for _ in range(8):
        cues.extend([("do", "show", ""), ("go", 23)])
    return Act(craft, cues + [END]), ("a", ""), ("put",)


def rows_of_number(number):
    return ["".join(row) for row in itertools.product("01", repeat=number)]


class TestShowings(Case):

    def test_one_row(self):
        self.assertEqual(fewest_showings(coin_act(), COIN, (PASSED, COIN), ("keep",), 1), ("0",))
        self.assertEqual(fewest_showings(coin_act(), COIN, (PASSED, COIN), ("keep",), 2), ("00",))
        self.assertEqual(fewest_showings(coin_act(), COIN, (COIN,), ("keep",), 4), ("0000",))

    def test_the_first_of_the_fewest(self):
        # Only who has asked to see it again, and then has the hand opened, tells the two apart.
        act = Act(coin_craft(), (("ask", 1, 3), ("do", "open", ""), END, ("ask", 4, 6), ("do", "reach", ""), END, END))
        self.assertEqual(fewest_showings(act, COIN, (COIN, ("a", "a", "")), (), 2), ("00",))
        self.assertEqual(fewest_showings(act, COIN, (("", "", "a"), COIN), (), 2), ("10",))

    def test_several_rows(self):
        held = (("", "", ""), ("", "", "a"), ("", "a", ""), ("a", "", ""))
        for start, length, rows in ((("", "", ""), 2, ("00", "10", "11")), (("", "", ""), 1, ("0",)),
                                    (("a", "", ""), 2, ("00",)), (("", "a", ""), 2, ("10",)),
                                    (("", "", "a"), 2, ("11",)), (("a", "a", ""), 2, ("00", "10"))):
            self.assertEqual(fewest_showings(LOOKING, start, held, (), length), rows)

    def test_nothing_is_told(self):
        for length in range(5):
            self.assertEqual(fewest_showings(Act(coin_craft(), (END,)), COIN, (PASSED, COIN), (), length), ())
        self.assertEqual(fewest_showings(LOOKING, COIN, (COIN,), (), 0), ())

    def test_the_length_0(self):
        self.assertEqual(fewest_showings(Act(coin_craft(), (("do", "open", ""), END)), COIN, (PASSED, COIN), (), 0), ("",))

    def test_no_filling_fits(self):
        self.assertEqual(fewest_showings(coin_act(), COIN, (PASSED,), (), 1), ("0",))

    def test_lists(self):
        self.assertEqual(fewest_showings(coin_act(), list(COIN), [list(PASSED), list(COIN)], ["keep"], 1), ("0",))
        self.assertEqual(fewest_showings(length=1, known=("keep",), held=(COIN,), start=COIN, act=coin_act()), ("0",))

    def test_many_acts(self):
        told = set()
        for act, start, rng in rich_plays(150, 90):
            guest = some_guest(rng, act.craft, start)
            length = rng.choice((0, 1, 2, 2, 3))
            try:
                fillings = Fillings(act, guest.held, guest.known)
            except TooMany:
                continue
            rows = rows_of_number(length)
            fits = {row: {filling for filling in fillings if fillings.show(filling, row) == show_of(act, start, row)}
                    for row in rows}
            every = set(fillings).intersection(*fits.values())
            lots = [lot for number in range(len(rows) + 1) for lot in itertools.combinations(rows, number)
                    if set(fillings).intersection(*[fits[row] for row in lot]) == every]
            got = fewest_showings(act, start, guest.held, guest.known, length)
            self.assertEqual(got, lots[0])
            self.assert_plain(got)
            told.add(len(got))
        self.assertLessEqual({0, 1, 2}, told)

    def test_all_rows_are_needed(self):
        # Each of the eight rows of three answers ends in a stroke of its own.
        act, start, known = tree_of_asks()
        rows = tuple(rows_of_number(3))
        self.assertEqual(fewest_showings(act, start, (start,), known, 3), rows)
        self.assertEqual(fewest_showings(act, start, (start,), known, 4), tuple([row + "0" for row in rows]))
        self.assertEqual(fewest_showings(act, start, (start,), known, 2), ())

    def test_300_fillings_and_301(self):
        act, held, known = many_fillings(60, 4)
        self.assertEqual(fewest_showings(act, held[0], held, known, 4), ())
        act, held, known = many_fillings(43, 6)
        self.refused(TooMany("filling"), fewest_showings, act, held[0], held, known, 4)
        self.refused(BadLength(5), fewest_showings, act, held[0], held, known, 5)

    def test_errors_in_their_order(self):
        for start in BAD_WORLDS:
            self.refused(BadWorld(start), fewest_showings, coin_act(), start, None, None, None)
        for held in NO_TUPLES + ((), (COIN,) * 61):
            self.refused(BadHeld(-1), fewest_showings, coin_act(), COIN, held, None, None)
        for world in BAD_WORLDS + (COIN, PASSED):
            self.refused(BadHeld(1), fewest_showings, coin_act(), COIN, (COIN, world, None), None, None)
        for known in NO_TUPLES:
            self.refused(BadKnown(-1), fewest_showings, coin_act(), COIN, (COIN,), known, None)
        for name in NO_STRINGS + ("", "pass", "keep"):
            self.refused(BadKnown(1), fewest_showings, coin_act(), COIN, (COIN,), ("keep", name, None), None)
        for length in NO_INTEGERS + (-1, 5):
            self.refused(BadLength(length), fewest_showings, coin_act(), COIN, (COIN,), (), length)
