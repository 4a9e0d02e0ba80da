from shownempty.acts import Act
from shownempty.bearing import bears
from shownempty.craft import Craft
from shownempty.errors import BadChallenge, BadWish, BadWorld, TooMany, Unlike
from shownempty.guests import Guest
from shownempty.smooth import Smooth
from shownempty.stands import Stand
from shownempty.wishes import Keeps
from tests.helpers import NO_STRINGS, NO_TUPLES, Case, coin_craft
from tests.standhelp import Parlour, many_situations, restless_stands, some_stands
from tests.test_stands import ANY, BOTH, COIN, CUES, END
from tests.test_standings import BAD_WORLDS

DRAIN = Craft(2, (("drain", (("a", 0, 1),), ()), ("nod", (), ())))


def bears_of(args):
    """The greatest number of challenges, by playing."""
    sound = {}
    for most in (0, 1, 2, 3, None):
        parlour = Parlour(*args, most)
        sound[most] = parlour.first() not in parlour.delays()
    if sound[None]:
        return None
    return max([number for number in range(4) if sound[number]], default=-1)


class TestBears(Case):

    def setUp(self):
        self.act = Act(coin_craft(), CUES)
        self.guest = Guest.layman(coin_craft(), COIN)

    def test_so_many(self):
        # Each challenge takes a thing away, and no other can be met when none is left.
        act = Act(DRAIN, (("ask", 0, 0),))
        for things in range(6):
            start = ("a" * things, "")
            guest = Guest.layman(DRAIN, start)
            self.assertEqual(bears(act, start, guest, (None, None), ("drain", "nod")), min(things, 3))
        self.assertIsNone(bears(act, ("", ""), guest, (None, None), ("nod",)))

    def test_any_number(self):
        self.assertIsNone(bears(self.act, BOTH, self.guest, ANY, ("open",)))
        self.assertIsNone(bears(self.act, COIN, self.guest, ANY, ()))
        self.assertIsNone(bears(self.act, list(COIN), self.guest, list(ANY), []))

    def test_none(self):
        self.assertEqual(bears(self.act, COIN, self.guest, ANY, ("open",)), 0)
        self.assertEqual(bears(self.act, BOTH, self.guest, (None, "", None), ["open"]), 0)

    def test_not_even_none(self):
        self.assertEqual(bears(self.act, BOTH, self.guest, ("", None, None), ("open",)), -1)
        self.assertEqual(bears(Act(coin_craft(), (("do", "open", "load"), END)), COIN, self.guest, ANY, ()), -1)

    def test_errors_in_their_order(self):
        other = Guest.layman(coin_craft().without("load"), COIN)
        for start in BAD_WORLDS:
            self.refused(BadWorld(start), bears, self.act, start, other, None, None)
        self.refused(Unlike("craft"), bears, self.act, COIN, other, None, None)
        for wish in NO_TUPLES + ((), (None, None), (None,) * 4, ("ba", "", "")):
            self.refused(BadWish(wish), bears, self.act, COIN, self.guest, wish, None)
        for challenges in NO_TUPLES:
            self.refused(BadChallenge(-1), bears, self.act, COIN, self.guest, ANY, challenges)
        for name in NO_STRINGS + ("", "keep", "open"):
            self.refused(BadChallenge(1), bears, self.act, COIN, self.guest, ANY, ("open", name))
        act, start, guest = many_situations(1)
        self.refused(BadChallenge(0), bears, act, start, guest, (None, None), ("nod",))

    def test_1000_and_1001(self):
        self.assertEqual(bears(*many_situations(0), (None, None), ()), -1)
        self.refused(TooMany("situation"), bears, *many_situations(1), (None, None), ())
        # With one challenge counted there are too many, though the conjuror does not stand even with none.
        act, start, guest = many_situations(0)
        for most in (0, None):
            self.assertIs(bool(Stand(act, start, guest, (None, None), ("wave",), most=most)), False)
        self.refused(TooMany("situation"), bears, act, start, guest, (None, None), ("wave",))

    def test_too_many_with_any_number_alone(self):
        # The challenges lead to as many worlds as one likes, but not within three of them.
        craft = Craft(6, [("abcde"[place], (("a", place, place + 1),), ()) for place in range(5)])
        start = ("aaaaaaaa", "", "", "", "", "")
        act = Act(craft, (("ask", 0, 0),))
        args = act, start, Guest.layman(craft, start), (None,) * 6
        challenges = tuple("abcde")
        self.assertEqual(len(Parlour(*args, challenges, 3).situations()), 1 + 1 + 2 + 3)
        self.refused(TooMany("situation"), Stand, *args, challenges)
        self.refused(TooMany("situation"), bears, *args, challenges)
        self.assertEqual(bears(*args, ("a",)), 3)

    def test_many_stands(self):
        told = set()
        for stands in (some_stands(120, 86), restless_stands(60, 87)):
            for args, _ in stands:
                try:
                    found = bears(*args)
                except TooMany:
                    continue
                act, start, _, wish, _ = args
                self.assertEqual(found == -1, not (Smooth(act, start) and Keeps(act, start, wish)))
                if len(Parlour(*args, 3).situations()) < 150:
                    self.assertEqual(found, bears_of(args))
                    told.add(found)
        self.assertEqual(told, {-1, 0, 1, 2, 3, None})
