from shownempty.acts import Act
from shownempty.actpairs import ActPair
from shownempty.errors import BadAnswer, BadHeld, BadKnown, BadWorld, NoFilling, TooMany
from shownempty.fillings import Fillings
from shownempty.lasting import Lasting
from shownempty.plays import show_of
from tests.acthelp import rich_plays, rows_of, some_guest
from tests.helpers import NO_STRINGS, NO_TUPLES, Case, as_lists, coin_act, coin_craft, spoil
from tests.test_actpairs import many_pairs
from tests.test_fillings import EVERY, NO_FILLINGS, many_fillings
from tests.test_standings import BAD_WORLDS

END = ("end",)
COIN = ("a", "", "")
PASSED = ("", "a", "")
# The pass can be seen again and again; at last the left hand is shown.
CUES = (("do", "pass", "keep"), ("ask", 2, 0), ("do", "reach", ""), END)


class TestLasting(Case):

    def setUp(self):
        self.lasting = Lasting(coin_act(), COIN, (PASSED, COIN), ("keep",))

    def test_what_lasts(self):
        # The right hand is empty, however often the pass is seen: so the coin must have been kept in the left one.
        self.assertIs(bool(self.lasting), True)
        self.assertEqual(self.lasting.table, ((COIN, ("keep", "")),))
        self.assertEqual((len(self.lasting), list(self.lasting)), (1, list(self.lasting.table)))
        self.assertEqual(self.lasting.sure, ("keep", ""))
        self.assert_plain((self.lasting.table, self.lasting.sure))

    def test_several_last(self):
        # It lies in the hand whose coin is not shown, and one can know no more.
        lasting = Lasting(Act(coin_craft(), (("do", "pass", "keep"), END)), COIN, (PASSED, COIN), ("keep",))
        self.assertEqual(lasting.table, ((PASSED, ("keep",)), (COIN, ("",)), (COIN, ("keep",))))
        self.assertEqual(lasting.sure, (None,))

    def test_none_lasts(self):
        for lasting in (Lasting(coin_act(), COIN, (PASSED,), ("keep",)), Lasting(coin_act(), COIN, (COIN,), ())):
            self.assertIs(bool(lasting), False)
            self.assertEqual((lasting.table, len(lasting), list(lasting), lasting.sure), ((), 0, [], (None, None)))

    def test_parting(self):
        parting = {(COIN, ("", "")): "0", (COIN, ("keep", "")): None, (PASSED, ("", "")): "", (PASSED, ("keep", "")): "0"}
        for filling in EVERY:
            self.assertEqual(self.lasting.parting(filling), parting[filling])
            self.assertEqual(self.lasting.parting(as_lists(filling)), parting[filling])

    def test_fitting(self):
        self.assertEqual(self.lasting.fitting(), EVERY)
        self.assertEqual(self.lasting.fitting(""), tuple(row for row in EVERY if row != (PASSED, ("", ""))))
        self.assertEqual(self.lasting.fitting("0"), ((COIN, ("keep", "")),))
        lasting = Lasting(Act(coin_craft(), CUES), COIN, (PASSED, COIN), ("keep",))
        self.assertEqual(lasting.fitting("", "1"), ((PASSED, ("keep", "")), (COIN, ("keep", ""))))
        self.assertEqual(lasting.fitting("1", "0"), ((COIN, ("keep", "")),))
        # What the true act does not ask for is not used.
        self.assertEqual(lasting.fitting("0111"), ((COIN, ("keep", "")),))

    def test_errors_of_fitting_and_parting(self):
        for thing in NO_FILLINGS:
            self.refused(NoFilling(thing), self.lasting.parting, thing)
        for answers in NO_STRINGS + ("0" * 201,):
            self.refused(BadAnswer(-1), self.lasting.fitting, "", answers, "2")
        self.refused(BadAnswer(2), self.lasting.fitting, "11", "112", None)
        self.assertEqual(len(self.lasting.fitting("1" * 200)), 2)

    def test_the_truth_need_not_be_held_or_known(self):
        act = Act(coin_craft(), (("do", "open", "load"), ("ask", 2, 2), ("do", "open", ""), END))
        lasting = Lasting(act, ("", "", "a"), (PASSED, COIN), ("keep",))
        self.assertEqual((lasting.table, lasting.sure), (((PASSED, ("", "")),), ("", "")))

    def test_acts_without_strokes(self):
        lasting = Lasting(Act(coin_craft(), (END,)), COIN, (PASSED,), ())
        self.assertEqual((lasting.table, lasting.sure), (((PASSED, ()),), ()))

    def test_attributes(self):
        act, start, held, known = coin_act(), list(COIN), as_lists((PASSED, COIN)), ["keep"]
        lasting = Lasting(known=known, held=held, start=start, act=act)
        for thing in (start, held, known):
            spoil(thing)
        self.assertIs(lasting.act, act)
        self.assertEqual((lasting.start, lasting.held, lasting.known), (COIN, (PASSED, COIN), ("keep",)))
        self.assertEqual(lasting.fitting("0"), ((COIN, ("keep", "")),))

    def test_many_acts(self):
        told = set()
        for act, start, rng in rich_plays(150, 80):
            guest = some_guest(rng, act.craft, start)
            try:
                lasting = Lasting(act, start, guest.held, guest.known)
            except TooMany:
                continue
            fillings = Fillings(act, guest.held, guest.known)
            rows = list(rows_of(3))
            shows = {row: show_of(act, start, row) for row in rows}
            for filling in fillings:
                parting = [row for row in rows if fillings.show(filling, row) != shows[row]]
                if parting:
                    self.assertEqual(lasting.parting(filling), parting[0])
                self.assertEqual(lasting.parting(filling),
                                 ActPair(act, start, fillings.filled(filling), filling[0]).answers)
            self.assertEqual(list(lasting), [filling for filling in fillings if lasting.parting(filling) is None])
            self.sure(lasting)
            some = rng.sample(rows, 3)
            self.assertEqual(lasting.fitting(*some), tuple(
                [filling for filling in fillings if all(fillings.show(filling, row) == shows[row] for row in some)]))
            told.add((min(len(lasting), 2), any(manner is None for manner in lasting.sure)))
        self.assertEqual(told, {(0, True), (1, False), (2, False), (2, True)})

    def sure(self, lasting):
        """The manner of each stroke is told that all lasting fillings have there."""
        ways = [{manners[k] for _, manners in lasting} for k in range(len(lasting.act.strokes))]
        self.assertEqual(lasting.sure, tuple([sorted(few)[0] if len(few) == 1 else None for few in ways]))

    def test_too_many_fillings(self):
        act, held, known = many_fillings(60, 4)
        self.assertEqual(len(Lasting(act, held[0], held, known)), 300)
        act, held, known = many_fillings(43, 6)
        self.refused(TooMany("filling"), Lasting, act, held[0], held, known)

    def test_600_pairs_and_601(self):
        act, _, start = many_pairs(10)
        self.assertEqual(Lasting(act, start, (start,), ()).parting((start, ("", "", ""))), None)
        act, _, start = many_pairs(11)
        self.refused(TooMany("pair"), Lasting, act, start, (start,), ())
        # It is due for one of the fillings, the others may have few pairs.
        self.refused(TooMany("pair"), Lasting, act, start, (("", "aaaabbbb"), start), ())
        self.assertEqual(Lasting(act, start, (("", "aaaabbbb"),), ()).table, ())

    def test_errors_in_their_order(self):
        for start in BAD_WORLDS:
            self.refused(BadWorld(start), Lasting, coin_act(), start, None, None)
        for held in NO_TUPLES + ((), (COIN,) * 61):
            self.refused(BadHeld(-1), Lasting, coin_act(), COIN, held, None)
        for world in BAD_WORLDS + (COIN, PASSED):
            self.refused(BadHeld(1), Lasting, coin_act(), COIN, (COIN, world, None), None)
        for known in NO_TUPLES:
            self.refused(BadKnown(-1), Lasting, coin_act(), COIN, (COIN,), known)
        for name in NO_STRINGS + ("", "pass", "keep"):
            self.refused(BadKnown(1), Lasting, coin_act(), COIN, (COIN,), ("keep", name, None))
