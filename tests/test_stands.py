from shownempty.acts import Act
from shownempty.craft import Craft
from shownempty.errors import BadAnswer, BadChallenge, BadMost, BadWish, BadWorld, NoGesture, NoSituation, TooMany
from shownempty.errors import Unlike
from shownempty.guests import Guest
from shownempty.judgestands import judge_catch, judge_stand
from shownempty.smooth import Smooth
from shownempty.stands import Stand
from shownempty.wishes import Keeps
from tests.acthelp import some_guest, some_plays
from tests.helpers import NO_INTEGERS, NO_STANDINGS, NO_STRINGS, NO_TUPLES, Case, as_lists, coin_craft, spoil
from tests.standhelp import Parlour, many_situations, restless_stands, some_stands
from tests.test_standings import BAD_WORLDS

END = ("end",)
COIN = ("a", "", "")
PASSED = ("", "a", "")
BOTH = ("a", "", "a")
LOADED = ("a", "a", "")
ANY = (None, None, None)
# The layman thinks that the coin has gone over.
THINKS = ((PASSED, 0),)
# The pass is kept; then they are asked, and it ends.
CUES = (("do", "pass", "keep"), ("ask", 2, 2), END)
BAD_MINDS = NO_TUPLES + (((COIN, 0), (PASSED, 0)), ((PASSED, 0), (PASSED, 0)), ((PASSED,),), ((PASSED, 1),), (PASSED, 0),
                         ((PASSED, -1),), ((PASSED, False),), ((("a", ""), 0),), ((PASSED, 0, 0),), (None,))


def bad_situations():
    """Rows that have the form of no situation of the act, the layman and at most one challenge."""
    rows = [thing for thing in NO_TUPLES] + [(), (1, BOTH), (1, BOTH, THINKS), (1, BOTH, THINKS, 0, 0), (1, BOTH, 0, 0)]
    rows.extend(tuple(thing) + (THINKS, 0) for thing in NO_STANDINGS if isinstance(thing, (tuple, list)))
    # At an end, when a challenge has been named, nothing more is asked of them but their form.
    for number, named in ((1, 0), (2, 1)):
        rows.extend((number, BOTH, mind, named) for mind in BAD_MINDS)
        rows.extend((number, BOTH, THINKS, made) for made in NO_INTEGERS + (-1, 2))
    # This one is not at rest.
    return rows + [(0, BOTH, THINKS, 0), (3, BOTH, THINKS, 0)]


class TestStand(Case):

    def setUp(self):
        self.act = Act(coin_craft(), CUES)
        self.guest = Guest.layman(coin_craft(), COIN)

    def stand(self, start, challenges=("open",), wish=ANY, most=None):
        return Stand(self.act, start, self.guest, wish, challenges, most=most)

    def test_stands(self):
        # If the hand shall be opened, the coin of the pocket is loaded.
        stand = self.stand(BOTH)
        self.assertIs(bool(stand), True)
        self.assertEqual(stand.beginning, (1, BOTH, THINKS, 0))
        self.verdict(stand, ((1, BOTH, THINKS, 0), (1, LOADED, THINKS, 0), (2, BOTH, THINKS, 0), (2, LOADED, THINKS, 0)))
        self.assertIsNone(stand.delay(stand.beginning))
        self.assertIsNone(stand.catch(stand.beginning))

    def test_does_not_stand(self):
        # There is nothing in the pocket.
        stand = self.stand(COIN)
        self.assertIs(bool(stand), False)
        self.verdict(stand, (((1, COIN, THINKS, 0), 1), ((2, COIN, THINKS, 0), 1)))
        self.assertEqual([stand.delay(row[0]) for row in stand], [1, 1])
        # An answer leads to the loss, too, but later.
        self.assertEqual([stand.catch(row[0]) for row in stand], ["open", "open"])

    def test_challenges_are_counted(self):
        stand = self.stand(BOTH, most=1)
        self.verdict(stand, ((1, BOTH, THINKS, 0), (1, LOADED, THINKS, 1), (2, BOTH, THINKS, 0), (2, LOADED, THINKS, 1)))
        stand = self.stand(COIN, most=0)
        self.assertIs(bool(stand), True)
        self.verdict(stand, ((1, COIN, THINKS, 0), (2, COIN, THINKS, 0)))

    def test_meetings(self):
        stand = self.stand(BOTH, ("open", "pass", "reach"), most=2)
        first = stand.beginning
        # To open the empty hand honestly would be a wonder, which is more than nothing to be explained.
        self.assertEqual(stand.meetings(first, "open"), (("load", (1, LOADED, THINKS, 1)),))
        self.assertEqual(stand.meetings(list(first), "reach"), ())
        # For him there is no coin in the left hand any more, so it cannot be passed again.
        self.assertEqual(stand.meetings(first, "pass"), ())
        self.assertEqual(stand.reply(first, "open"), "load")
        self.assertIsNone(stand.reply(first, "reach"))
        loaded = (1, LOADED, THINKS, 1)
        self.assertEqual(stand.meetings(loaded, "open"), (("", (1, LOADED, THINKS, 2)),))
        self.assertEqual(stand.reply(as_lists(loaded), "open"), "")
        self.assert_plain(stand.meetings(first, "open"))

    def test_several_manners_meet(self):
        # He knows how to keep: then the pass can be honest or kept, and each is told, in the order of the craft.
        guest = Guest(coin_craft(), (("aa", "", ""),), ("keep",), 2)
        act = Act(coin_craft(), (("ask", 0, 1), END))
        stand = Stand(act, ("aa", "", ""), guest, ANY, ("pass",), most=1)
        mind = ((("a", "a", ""), 0), (("aa", "", ""), 1))
        self.assertEqual(stand.meetings(stand.beginning, "pass"),
                         (("", (0, ("a", "a", ""), mind, 1)), ("keep", (0, ("aa", "", ""), mind, 1))))
        self.assertEqual(stand.reply(stand.beginning, "pass"), "")
        # Where the right hand shall be empty at the end, only the kept one is of use.
        stand = Stand(act, ("aa", "", ""), guest, (None, "", None), ("pass",), most=1)
        self.assertEqual((bool(stand), stand.reply(stand.beginning, "pass")), (True, "keep"))

    def test_the_reply_with_the_greatest_delay(self):
        # No manner is good: by the first one it is lost at once, by the others later; the second of these is not taken.
        craft = Craft(2, (("turn", (("~", 0, 1),), ()), ("idle", (), ()), ("take", (("a", 0, 1),), ())),
                      (("stay", "turn", (), 1, ()), ("hold", "turn", (), 1, ())))
        act = Act(craft, (("ask", 1, 1), ("do", "take", ""), ("ask", 3, 3), ("do", "take", ""), END))
        stand = Stand(act, ("a", ""), Guest(craft, (("", ""),), (), 0), (None, None), ("turn",), most=1)
        first = stand.beginning
        self.assertEqual([stand.delay(behind) for _, behind in stand.meetings(first, "turn")], [1, 2, 2])
        self.assertEqual(stand.reply(first, "turn"), "stay")
        self.assertEqual((stand.delay(first), stand.catch(first)), (2, "0"))

    def test_moves_in_their_order(self):
        # All moves leave the same: the least answer is told; among challenges the least name.
        craft = Craft(2, (("take", (("a", 0, 1),), ()), ("drop", (("b", 0, 1),), ())))
        guest = Guest(craft, (("", ""),), (), 0)
        act = Act(craft, (("ask", 1, 1), ("do", "take", ""), END))
        stand = Stand(act, ("", ""), guest, (None, None), ("drop", "take"))
        self.assertEqual((stand.catch(stand.beginning), stand.delay(stand.beginning)), ("0", 1))
        act = Act(craft, (("ask", 3, 1), ("do", "take", ""), END, ("ask", 3, 3)))
        stand = Stand(act, ("", ""), guest, (None, None), (), most=3)
        self.assertEqual((stand.catch(stand.beginning), stand.delay(stand.beginning)), ("1", 1))
        stand = Stand(Act(craft, (("ask", 0, 0),)), ("", ""), guest, (None, None), ("drop", "take"), most=3)
        self.assertEqual((stand.catch(stand.beginning), stand.delay(stand.beginning)), ("drop", 1))

    def test_an_empty_mind(self):
        # He has seen a wonder: nothing need be explained any more, so whatever can be done meets a challenge.
        act = Act(coin_craft(), (("do", "pass", "keep"), ("do", "open", ""), ("ask", 3, 3), END))
        stand = Stand(act, COIN, self.guest, ANY, ("open", "pass", "reach"))
        self.assertEqual(stand.beginning, (2, COIN, (), 0))
        self.assertEqual(stand.meetings(stand.beginning, "open"), (("", (2, COIN, (), 0)),))
        self.assertEqual(stand.meetings(stand.beginning, "pass"),
                         (("", (2, PASSED, (), 0)), ("keep", (2, COIN, (), 0))))
        # When the coin has gone over, the pass can still be seen.
        self.assertEqual(stand.meetings((2, PASSED, (), 0), "pass"), (("keep", (2, PASSED, (), 0)),))
        self.assertEqual((bool(stand), stand.reply(stand.beginning, "pass")), (True, ""))

    def test_no_more_may_need_to_be_explained(self):
        # He can explain it, but only by a sleight more.
        guest = Guest(coin_craft(), (COIN,), ("keep",), 2)
        stand = Stand(self.act, COIN, guest, ANY, ("open", "reach"), most=1)
        mind = ((PASSED, 0), (COIN, 1))
        self.assertEqual(stand.beginning, (1, COIN, mind, 0))
        self.assertEqual(guest.behind(mind, ("open", ("",))), ((COIN, 1),))
        self.assertEqual([stand.meetings(stand.beginning, name) for name in ("open", "reach")], [(), ()])

    def test_a_challenge_at_an_end(self):
        stand = Stand(Act(coin_craft(), (("do", "pass", "keep"), END)), COIN, self.guest, ANY, ("open",))
        self.verdict(stand, (((1, COIN, THINKS, 0), 1),))
        self.assertEqual(stand.catch(stand.beginning), "open")

    def test_a_challenge_at_an_end_that_is_broken(self):
        stand = self.stand(BOTH, wish=PASSED)
        end = (2, BOTH, THINKS, 0)
        self.assertEqual((stand.delay(end), stand.catch(end)), (0, None))
        self.assertEqual(stand.meetings(end, "open"), (("load", (2, LOADED, THINKS, 0)),))
        self.assertEqual(stand.reply(end, "open"), "load")
        # What lies behind it is there, too.
        act = Act(coin_craft(), (END,))
        stand = Stand(act, BOTH, Guest(coin_craft(), (PASSED,), (), 0), COIN, ("open", "pass"), most=1)
        self.verdict(stand, (((0, BOTH, THINKS, 0), 0), ((0, LOADED, THINKS, 1), 0)))

    def test_an_end_that_is_mended_by_a_challenge_is_broken_all_the_same(self):
        act = Act(coin_craft(), (END,))
        stand = Stand(act, BOTH, Guest(coin_craft(), (PASSED,), (), 0), LOADED, ("open",))
        self.verdict(stand, (((0, BOTH, THINKS, 0), 0),))
        self.assertIs(bool(stand), False)
        self.assertIsNone(stand.delay((0, LOADED, THINKS, 0)))

    def test_stuck(self):
        act = Act(coin_craft(), (("do", "open", "load"), END))
        stand = Stand(act, COIN, self.guest, ANY, ("open", "pass"))
        self.verdict(stand, (((0, COIN, ((COIN, 0),), 0), 0),))
        self.assertIsNone(stand.catch(stand.beginning))
        for name in ("open", "pass"):
            self.refused(NoGesture(name), stand.meetings, stand.beginning, name)
            self.refused(NoGesture(name), stand.reply, stand.beginning, name)
        self.refused(BadAnswer(0), stand.answered, stand.beginning, "0")

    def test_answered(self):
        stand = self.stand(BOTH, most=1)
        self.assertEqual(stand.answered(stand.beginning, "1"), (2, BOTH, THINKS, 0))
        self.assertEqual(stand.answered([1, LOADED, THINKS, 1], answer="0"), (2, LOADED, THINKS, 1))
        self.assert_plain(stand.answered(stand.beginning, "0"))
        for answer in NO_STRINGS + ("", "2", "01", "open"):
            self.refused(BadAnswer(0), stand.answered, stand.beginning, answer)
        self.refused(BadAnswer(0), stand.answered, (2, BOTH, THINKS, 0), "0")
        # By 0 and by 1 it goes on elsewhere.
        act = Act(coin_craft(), (("ask", 2, 1), END, ("do", "open", ""), END))
        stand = Stand(act, COIN, self.guest, ANY, ())
        self.assertEqual([stand.answered(stand.beginning, answer)[0] for answer in "01"], [3, 1])

    def test_no_gesture(self):
        stand = self.stand(BOTH, ("open", "reach"), most=1)
        for name in NO_STRINGS + ("", "pass", "keep", "load", "0"):
            self.refused(NoGesture(name), stand.meetings, stand.beginning, name)
            self.refused(NoGesture(name), stand.reply, stand.beginning, name)
        # So many have been named already.
        self.refused(NoGesture("open"), stand.meetings, (1, LOADED, THINKS, 1), "open")
        self.refused(NoGesture("open"), stand.reply, (1, LOADED, THINKS, 1), "open")
        self.assertEqual(len(stand.meetings((2, BOTH, THINKS, 0), "open")), 1)

    def test_no_challenge_that_may_be_named(self):
        stand = self.stand(COIN, ())
        self.verdict(stand, ((1, COIN, THINKS, 0), (2, COIN, THINKS, 0)))
        self.refused(NoGesture("open"), stand.reply, stand.beginning, "open")
        # Without a wish that fits, an answer is enough.
        stand = self.stand(COIN, (), PASSED)
        self.verdict(stand, (((1, COIN, THINKS, 0), 1), ((2, COIN, THINKS, 0), 0)))
        self.assertEqual(stand.catch(stand.beginning), "0")

    def test_attributes(self):
        start, wish, challenges = list(BOTH), [None, "", None], ["open", "reach"]
        stand = Stand(challenges=challenges, wish=wish, guest=self.guest, start=start, act=self.act, most=2)
        for thing in (start, wish, challenges):
            spoil(thing)
        self.assertIs(stand.act, self.act)
        self.assertIs(stand.guest, self.guest)
        self.assertEqual((stand.start, stand.wish, stand.challenges, stand.most),
                         (BOTH, (None, "", None), ("open", "reach"), 2))
        self.assertIsNone(self.stand(BOTH).most)

    def test_no_situation(self):
        stand = self.stand(BOTH, most=1)
        others = [(1, LOADED, THINKS, 0), (1, BOTH, THINKS, 1), (1, BOTH, (), 0), (1, COIN, THINKS, 0), -1]
        for thing in bad_situations() + others:
            for call, *more in ((stand.delay,), (stand.answered, None), (stand.meetings, None), (stand.reply, None),
                                (stand.catch,)):
                self.refused(NoSituation(thing), call, thing, *more)
        self.refused(NoSituation((1, LOADED, THINKS, 1)), self.stand(BOTH).delay, (1, LOADED, THINKS, 1))

    def test_errors_in_their_order(self):
        other = Guest.layman(coin_craft().without("load"), COIN)
        calls = (lambda *args: Stand(*args[:-1], most=args[-1]), lambda *args: judge_stand(*args, ()),
                 lambda *args: judge_catch(*args, ()))
        for call in calls:
            for start in BAD_WORLDS:
                self.refused(BadWorld(start), call, self.act, start, other, None, None, 4)
            self.refused(Unlike("craft"), call, self.act, COIN, other, None, None, 4)
            for wish in NO_TUPLES + ((), (None, None), (None,) * 4, ("ba", "", ""), (True, None, None)):
                self.refused(BadWish(wish), call, self.act, COIN, self.guest, wish, None, 4)
            for challenges in NO_TUPLES:
                self.refused(BadChallenge(-1), call, self.act, COIN, self.guest, ANY, challenges, 4)
            for name in NO_STRINGS + ("", "keep", "open", "aside"):
                self.refused(BadChallenge(1), call, self.act, COIN, self.guest, ANY, ("open", name, None), 4)
                self.refused(BadChallenge(1), call, self.act, COIN, self.guest, ANY, ["open", name], 4)
            self.refused(BadChallenge(0), call, self.act, COIN, self.guest, ANY, ("load",), 4)
            self.refused(BadChallenge(1), call, self.act, COIN, self.guest, ANY, ("reach", "open"), 4)
            for most in NO_INTEGERS[1:] + (-1, 4, 10 ** 39):
                self.refused(BadMost(most), call, self.act, COIN, self.guest, ANY, ("open",), most)
        act, start, guest = many_situations(1)
        self.refused(BadMost(4), Stand, act, start, guest, (None, None), (), most=4)

    def test_1000_and_1001(self):
        stand = Stand(*many_situations(0), (None, None), ())
        self.assertEqual((len(stand), bool(stand)), (1000, False))
        self.refused(TooMany("situation"), Stand, *many_situations(1), (None, None), ())
        # What challenges lead to is counted as well, wherever they may be named.
        self.refused(TooMany("situation"), Stand, *many_situations(0), (None, None), ("wave",), most=1)
        self.assertEqual(len(Stand(*many_situations(0), (None, None), ("wave",), most=0)), 1000)
        self.assertEqual(len(Stand(*many_situations(0), (None, None), ("wave",))), 1000)

    def test_all_are_counted_though_it_is_broken_early(self):
        act, start, guest = many_situations(2)
        act = Act(act.craft, (("ask", 1, 2), END) + act.cues[2:])
        self.refused(TooMany("situation"), Stand, act, start, guest, ("z", None), ())

    def test_many_stands(self):
        told = set()
        for stands in (some_stands(200, 80), restless_stands(100, 81)):
            for args, rng in stands:
                most = rng.choice((0, 1, 2, 3, None))
                try:
                    stand = Stand(*args, most=most)
                except TooMany:
                    continue
                if len(stand) < 120:
                    told.add(self.one(stand, Parlour(*args, most)))
        self.assertEqual(told, {True, False})

    def one(self, stand, parlour):
        """All that the stand tells is what is found by playing."""
        delays = parlour.delays()
        situations = parlour.situations()
        lost = parlour.first() in delays
        self.assertEqual((stand.beginning, bool(stand)), (parlour.first(), not lost))
        self.verdict(stand, tuple((here, delays[here]) for here in situations if here in delays) if lost
                     else tuple(here for here in situations if here not in delays))
        for here in situations:
            self.assertEqual(stand.delay(here), delays.get(here))
            left = parlour.left_by(here, delays)
            least = [move for move, delay in left if delay == min(more for _, more in left)]
            broken = parlour.is_broken(here)
            self.assertEqual(stand.catch(here), None if broken or here not in delays else least[0])
            for answer, behind in parlour.answers(here).items():
                self.assertEqual(stand.answered(here, answer), behind)
            for gesture in parlour.named(here):
                self.replied(stand, here, gesture, parlour.meetings(here, gesture), delays)
        return not lost

    def replied(self, stand, here, gesture, met, delays):
        self.assertEqual(stand.meetings(here, gesture), met)
        sound = [manner for manner, behind in met if behind not in delays]
        late = [manner for manner, behind in met
                if delays.get(behind) == max(delays.get(other, -1) for _, other in met)]
        self.assertEqual(stand.reply(here, gesture), (sound + late + [None])[0])

    def test_without_challenges_it_is_smooth_and_keeps_the_wish(self):
        told = set()
        for act, start, rng in some_plays(400, 82):
            guest = some_guest(rng, act.craft, start)
            wish = tuple([rng.choice((None, "", "a")) for _ in start])
            good = bool(Smooth(act, start)) and bool(Keeps(act, start, wish))
            for challenges, most in (((), None), ((), 2), ((act.craft.gestures[0][0],), 0)):
                self.assertIs(bool(Stand(act, start, guest, wish, challenges, most=most)), good)
            told.add(good)
        self.assertEqual(told, {True, False})
