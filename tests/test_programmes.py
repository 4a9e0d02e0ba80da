import itertools

from shownempty.acts import Act
from shownempty.errors import BadOrder, Unreached
from shownempty.evenings import Evening
from shownempty.programmes import cheapest_programme, order_value
from tests.eveninghelp import order_value_of, rich_evenings, some_evenings
from tests.helpers import NO_STRINGS, NO_TUPLES, Case, coin_craft
from tests.test_evenings import ANY, END, LEFT, PASS, POCKET, POCKETS, RIGHT, SHOW, coin_evening, piece_of
from tests.test_standings import BAD_WORLDS


class TestOrderValue(Case):

    def setUp(self):
        self.evening = coin_evening()

    def test_values(self):
        self.assertEqual(order_value(self.evening, ("pass", "show")), 0)
        # First it must be shown, which cannot be done from the left hand.
        self.assertEqual(order_value(self.evening, ("show", "pass")), -1)
        self.assertEqual(order_value(self.evening, ("show", "pass"), RIGHT), 4)
        self.assertEqual(order_value(self.evening, ["show", "pass"], list(POCKET)), 8)
        self.assertEqual(order_value(world=RIGHT, order=("pass", "show"), evening=self.evening), 4)

    def test_an_order_without_names(self):
        self.assertEqual(order_value(self.evening, ()), 0)
        self.assertEqual([order_value(self.evening, [], world) for world in self.evening.worlds], [0, 0, 0])

    def test_an_order_of_some_of_the_names(self):
        self.assertEqual([order_value(self.evening, ("show",), world) for world in (LEFT, RIGHT, POCKET)], [-1, 0, 4])
        self.assertEqual([order_value(self.evening, ("pass",), world) for world in (LEFT, RIGHT, POCKET)], [0, 4, 1])

    def test_from_the_start(self):
        self.assertEqual(order_value(coin_evening(RIGHT), ("show", "pass")), 4)
        self.assertEqual(order_value(coin_evening(RIGHT), ("show", "pass"), None), 4)

    def test_who_knows_the_order_looks_ahead(self):
        # The coin must leave the pocket for the first act; for the second one it must lie in the left hand, for the
        # third one in the right hand. Who knows which of these comes first lays it there at once.
        idle = Act(coin_craft(), (END,))
        pieces = (("lift", idle, (None, None, "")), ("left", idle, ("a", None, None)), ("right", idle, (None, "a", None)))
        pockets = (((("a", 2, 0),), 1), ((("a", 2, 1),), 1), ((("a", 0, 1),), 9), ((("a", 1, 0),), 9))
        evening = Evening(pieces, pockets, POCKET)
        names = ("left", "lift", "right")
        self.assertEqual({order_value(evening, order) for order in itertools.permutations(names)}, {10})
        self.assertEqual(evening.value(POCKET, names), 19)
        self.assertEqual(cheapest_programme(evening), (10, names))

    def test_bad_orders(self):
        for order in NO_TUPLES + (("pass", "pass"), ("pass", "show", "pass"), ["show", "show"], "pass", ("pass", None)):
            self.refused(BadOrder(order), order_value, self.evening, order, None)
        for name in NO_STRINGS + ("", "coin"):
            order = ("pass", name)
            self.refused(BadOrder(order), order_value, self.evening, order, ("", "", ""))

    def test_unreached(self):
        for world in BAD_WORLDS[1:] + (("", "", ""), ("aa", "", "")):
            self.refused(Unreached(world), order_value, self.evening, (), world)

    def test_many_evenings(self):
        told = set()
        for evenings in (some_evenings(80, 113), rich_evenings(60, 114)):
            for evening, rng in evenings:
                names = [piece[0] for piece in evening]
                for world in evening.worlds[:4]:
                    order = tuple(rng.sample(names, rng.randint(0, len(names))))
                    value = order_value(evening, order, world)
                    self.assertEqual(value, order_value_of(evening, order, world))
                    told.add((len(order), min(value, 1)))
        self.assertLessEqual({(many, value) for many in (1, 2, 3) for value in (-1, 0, 1)}, told)


class TestCheapestProgramme(Case):

    def test_cheapest(self):
        told = cheapest_programme(coin_evening())
        self.assertEqual(told, (0, ("pass", "show")))
        self.assert_plain(told)
        self.assertEqual(cheapest_programme(coin_evening(POCKET)), (1, ("pass", "show")))
        # Both orders cost 4 there: the first one as a tuple.
        self.assertEqual(cheapest_programme(coin_evening(RIGHT)), (4, ("pass", "show")))

    def test_no_programme(self):
        self.assertIsNone(cheapest_programme(coin_evening(RIGHT, ())))
        show = piece_of(SHOW)
        self.assertIsNone(cheapest_programme(Evening((show,), (), LEFT)))
        self.assertEqual(cheapest_programme(Evening((show,), (), RIGHT)), (0, ("show",)))

    def test_an_order_that_cannot_be_done_is_none(self):
        # The value -1 of the other order is not the least one.
        evening = Evening((piece_of(PASS), piece_of(SHOW)), POCKETS[:2], LEFT)
        self.assertEqual(order_value(evening, ("show", "pass")), -1)
        self.assertEqual(cheapest_programme(evening), (0, ("pass", "show")))

    def test_four_pieces(self):
        idle = Act(coin_craft(), (END,))
        names = ("c", "a", "d", "b")
        wishes = ((None, "a", None), ANY, ANY, ("a", None, None))
        evening = Evening([(name, idle, wish) for name, wish in zip(names, wishes)],
                          (((("a", 0, 1),), 2), ((("a", 1, 0),), 3)), LEFT)
        self.assertEqual(cheapest_programme(evening), (2, ("a", "b", "c", "d")))
        self.assertEqual(evening.value(LEFT, ("a", "b", "c", "d")), 5)

    def test_many_evenings(self):
        told = set()
        for evenings in (some_evenings(100, 115), rich_evenings(80, 116)):
            for evening, _ in evenings:
                names = sorted(piece[0] for piece in evening)
                values = [(order_value_of(evening, order, evening.start), order)
                          for order in itertools.permutations(names)]
                best = min([row for row in values if row[0] != -1], default=None)
                self.assertEqual(cheapest_programme(evening), best)
                # Whoever is called to an act can be called in this order, too.
                called = evening.value(evening.start, tuple(names))
                if called != -1:
                    self.assertLessEqual(best[0], called)
                    self.assertTrue(all(0 <= value <= called for value, _ in values))
                told.add((best is None, called == -1, bool(best) and best[0] < called))
        self.assertLessEqual({(True, True, False), (False, True, False), (False, False, False), (False, False, True)}, told)

    def test_joined_acts(self):
        # An evening of acts in an order, without pockets, is good exactly if the joined acts are.
        told = set()
        for evening, _ in some_evenings(400, 117, 2):
            if len(evening) < 2:
                continue
            (first, act, wish), (second, other, last) = evening.pieces
            wishless = Evening(((first, act, (None,) * len(wish)), (second, other, last)), (), evening.start)
            joined = Evening((("both", act + other, last),), (), evening.start)
            value = order_value(wishless, (first, second))
            self.assertEqual(value, joined.value(evening.start, ("both",)))
            told.add(value)
        self.assertEqual(told, {-1, 0})
