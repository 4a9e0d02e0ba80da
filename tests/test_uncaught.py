from shownempty.acts import Act
from shownempty.craft import Craft
from shownempty.errors import BadWorld, TooMany, Unlike
from shownempty.explained import Explained
from shownempty.guests import Guest
from shownempty.plays import Play
from shownempty.uncaught import Uncaught, judge_uncaught
from tests.acthelp import changed_rows, rich_plays, some_guest, some_plays
from tests.helpers import NO_STANDINGS, Case, as_lists, coin_act, coin_craft, spoil
from tests.test_guests import explanations
from tests.test_standings import BAD_WORLDS, many_standings
from tests.test_wonders import bad_minds, thoughts_behind

END = ("end",)
COIN = ("a", "", "")
PASSED = ("", "a", "")
BEGUN = ((COIN, 0),)
KEPT = ((PASSED, 0), (COIN, 1))
SURE = ((COIN, 1),)
# The pass is kept; then they are asked whether to have the hand opened.
CUES = (("do", "pass", "keep"), ("ask", 4, 2), ("do", "open", ""), ("ask", 4, 4), END)


def many_marks(ahead, inner, manner):
    """An act and a start with very many marks; the first stroke is a nod, or a tip in this manner."""
    craft = Craft(2, (("nod", (), ()), ("tip", (("a", 0, 1),), ()), ("left", (("a", 0, 1),), ()),
                      ("right", (("b", 0, 1),), ())), (("hold", "tip", (), 1, ()),))
    cues = list(many_standings(ahead, inner)[0])
    cues[0] = ("do", "tip", manner) if manner else ("do", "nod", "")
    return Act(craft, cues), ("aaaabbbb", "")


def sure_strokes(guest, events):
    """The numbers of the strokes of which the guest is sure, by all his explanations."""
    found = [manners for (_, manners), _ in explanations(guest, events)]
    strokes = len([event for event in events if not isinstance(event, str)])
    return [k for k in range(strokes) if found and all(manners[k] for manners in found)]


class TestUncaught(Case):

    def setUp(self):
        self.act = Act(coin_craft(), CUES)
        self.layman = Guest.layman(coin_craft(), COIN)
        self.knowing = Guest(coin_craft(), (COIN,), ("keep",), 2)

    def test_never_caught(self):
        act = Act(coin_craft(), (("do", "pass", "keep"), ("ask", 2, 2), END))
        uncaught = Uncaught(act, COIN, self.knowing)
        self.assertIs(bool(uncaught), True)
        self.assertIsNone(uncaught.breach)
        honest = ((PASSED, 0),)
        self.verdict(uncaught, ((0, COIN, BEGUN, None), (1, COIN, KEPT, None), (2, COIN, KEPT, None),
                                (1, COIN, KEPT, honest), (2, COIN, KEPT, honest)))

    def test_caught(self):
        uncaught = Uncaught(self.act, COIN, self.knowing)
        self.assertIs(bool(uncaught), False)
        self.assertEqual(uncaught.breach, ("1", 0))
        self.assert_plain(uncaught.breach)
        self.verdict(uncaught, None)

    def test_who_knows_nothing_is_never_sure(self):
        uncaught = Uncaught(self.act, COIN, self.layman)
        self.assertIs(bool(uncaught), True)
        # Behind the opening both his mind and the shares are empty.
        self.assertIn((3, COIN, (), ()), uncaught.table)
        self.assertIn((3, COIN, (), None), uncaught.table)

    def test_caught_when_it_ends(self):
        act = Act(coin_craft(), (("do", "open", ""), ("do", "pass", "keep"), ("do", "open", ""), END))
        self.assertEqual(Uncaught(act, COIN, self.knowing).breach, ("", 1))
        # Where nothing is asked and nothing ends, he may be as sure as he likes.
        act = Act(coin_craft(), (("do", "pass", "keep"), ("do", "open", ""), ("do", "open", "load"), END))
        self.assertIs(bool(Uncaught(act, COIN, self.knowing)), True)

    def test_the_least_index(self):
        # Two passes, and then the coin is shown where it was: both were kept.
        act = Act(coin_craft(), (("do", "pass", "keep"), ("do", "open", ""), ("do", "pass", "keep"), ("ask", 4, 4), END))
        self.assertEqual(Uncaught(act, COIN, self.knowing).breach, ("", 0))
        act = Act(coin_craft(), (("do", "pass", ""), ("do", "pass", "keep"), ("do", "reach", ""), END))
        self.assertEqual(Uncaught(act, ("aa", "", ""), Guest(coin_craft(), (("aa", "", ""),), ("keep",), 2)).breach, None)
        act = Act(coin_craft(), (("do", "pass", ""), ("do", "open", ""), ("do", "pass", "keep"), ("do", "open", ""), END))
        self.assertEqual(Uncaught(act, ("aa", "", ""), Guest(coin_craft(), (("aa", "", ""),), ("keep",), 2)).breach,
                         ("", 1 + 1))

    def test_the_most_makes_sure(self):
        # Who thinks of one sleight alone cannot think that the coin was kept twice.
        act = Act(coin_craft(), (("do", "pass", "keep"), ("do", "pass", "keep"), END))
        self.assertEqual(Uncaught(act, COIN, Guest(coin_craft(), (PASSED, COIN), ("keep",), 1)).breach, None)
        self.assertEqual(Uncaught(act, COIN, Guest(coin_craft(), (PASSED,), ("keep",), 2)).breach, ("", 0))

    def test_the_least_answers_of_marks_behind_the_same_ones(self):
        # Once or twice a thing is turned: the share of the first turn, and later that of the second one, is lost by
        # the look. Behind the same answers there are marks with unlike shares; only one of them is caught behind "0".
        craft = Craft(2, (("turn", (("a", 0, 1), ("a", 1, 0)), ()), ("look", (), (0,))),
                      (("slip", "turn", (("a", 0, 1),), 1, ()), ("idle", "turn", (), 1, ())))
        guest = Guest(craft, (("a", ""),), ("slip",), 1)
        for asks, breach in ((("ask", 2, 3), ("0", 1)), (("ask", 3, 2), ("0", 0))):
            act = Act(craft, (("do", "turn", "idle"), asks, ("do", "turn", "idle"), ("do", "look", ""), END))
            self.assertEqual(Uncaught(act, ("", ""), guest).breach, breach)

    def test_long_plays(self):
        cues = [("do", "pass", "keep")] + [("do", "reach", "")] * 40 + [("do", "open", ""), END]
        self.assertEqual(Uncaught(Act(coin_craft(), cues), COIN, self.knowing).breach, ("", 0))

    def test_attributes(self):
        start = list(COIN)
        uncaught = Uncaught(guest=self.knowing, start=start, act=self.act)
        spoil(start)
        self.assertIs(uncaught.act, self.act)
        self.assertIs(uncaught.guest, self.knowing)
        self.assertEqual(uncaught.start, COIN)

    def test_1500_and_1501(self):
        act, start = many_marks(11, 25, "")
        guest = Guest.layman(act.craft, start)
        self.refused(TooMany("mark"), Uncaught, act, start, guest)
        act = Act(act.craft, (("go", 1),) + act.cues[1:])
        uncaught = Uncaught(act, start, guest)
        self.assertEqual((len(uncaught), uncaught.breach), (1500, None))
        act, _ = many_marks(11, 15, "hold")
        self.assertEqual(Uncaught(act, start, Guest(act.craft, (start,), ("hold",), 1)).breach, ("0000000", 0))
        # The whole list is counted, although he is sure at once.
        act, _ = many_marks(15, 22, "hold")
        guest = Guest(act.craft, (("bbbb", "aaaa"),), ("hold",), 1)
        self.refused(TooMany("mark"), Uncaught, act, start, guest)
        self.assertEqual(Uncaught(Act(act.craft, (("do", "tip", "hold"), END)), start, guest).breach, ("", 0))

    def test_errors_in_their_order(self):
        act, start = many_marks(11, 25, "")
        other = Guest.layman(coin_craft().without("load"), COIN)
        for call in (Uncaught, lambda *args: judge_uncaught(*args, ())):
            for world in BAD_WORLDS:
                self.refused(BadWorld(world), call, self.act, world, other)
            self.refused(Unlike("craft"), call, self.act, COIN, other)
            self.refused(Unlike("craft"), call, act, start, other)

    def test_many_acts(self):
        told = set()
        for act, start, rng in rich_plays(200, 40):
            guest = some_guest(rng, act.craft, start)
            try:
                uncaught = Uncaught(act, start, guest)
            except TooMany:
                continue
            breach = self.first_breach(act, start, guest, 4)
            if breach is not None:
                self.assertEqual(uncaught.breach, breach)
            elif uncaught.breach is not None:
                self.assertGreater(len(uncaught.breach[0]), 4)
            self.verdict(uncaught, uncaught.table if uncaught.breach is None else None)
            if uncaught:
                self.marks(uncaught)
                self.assertIsNone(judge_uncaught(act, start, guest, uncaught.table))
            told.add(uncaught.breach and (len(uncaught.breach[0]), uncaught.breach[1]))
        self.assertLessEqual({None, (0, 0), (1, 0), (1, 1)}, told)

    def first_breach(self, act, start, guest, most):
        for row, thoughts in thoughts_behind(act, start, guest, most).items():
            events = Play(act, start, row).events
            if act[thoughts[-1][0]][0] in ("ask", "end") and len(events) < 12:
                sure = sure_strokes(guest, events)
                if sure:
                    self.assertEqual(guest.mind(events) != (), True)
                    self.assertTrue(Explained(guest, events).fewest >= 1)
                    return (row, sure[0])
        return None

    def marks(self, uncaught):
        """The marks with None are the thoughts, then come the others; each list is ascending."""
        bare = [mark[:3] for mark in uncaught if mark[3] is None]
        others = [mark for mark in uncaught if mark[3] is not None]
        self.assertEqual(uncaught.table, tuple([mark + (None,) for mark in sorted(set(bare))] + sorted(set(others))))
        thoughts = thoughts_behind(uncaught.act, uncaught.start, uncaught.guest, 4)
        self.assertLessEqual({thought for row in thoughts.values() for thought in row}, set(bare))
        self.assertLessEqual({mark[:3] for mark in others}, set(bare))


class TestJudged(Case):

    def setUp(self):
        self.act = Act(coin_craft(), CUES)
        self.guest = Guest(coin_craft(), (COIN,), ("keep",), 0)
        self.table = Uncaught(self.act, COIN, self.guest).table

    def judge(self, table):
        return judge_uncaught(self.act, COIN, self.guest, table)

    def test_right(self):
        self.assertEqual(len(self.table), 11)
        self.judged(self.judge, self.table, None)
        self.judged(self.judge, self.table[::-1] + self.table, None)
        self.assertIsNone(judge_uncaught(self.act, list(COIN), self.guest, as_lists(self.table)))

    def test_rows_left_out(self):
        for k, rows in changed_rows(self.table):
            if self.table[k] == (0, COIN, BEGUN, None):
                self.judged(self.judge, rows, -1)
            else:
                self.assertIn(self.judge(rows), range(len(rows)))

    def test_a_stroke_leads_to_two_marks(self):
        honest = ((PASSED, 0),)
        self.judged(self.judge, [row for row in self.table if row[:2] != (1, COIN) or row[3] is None], 0)
        self.judged(self.judge, [row for row in self.table if row[:2] != (1, COIN) or row[3] is not None], 0)
        self.assertIn((1, COIN, honest, honest), self.table)
        # Another share does not do in its place.
        self.judged(self.judge, [row for row in self.table if row != (1, COIN, honest, honest)]
                    + [(1, COIN, honest, ())], 0)

    def test_the_first_one_is_lacking(self):
        self.judged(self.judge, (), -1)
        self.judged(self.judge, ((0, COIN, BEGUN, ()),) + self.table[1:], -1)
        self.judged(self.judge, ((0, PASSED, BEGUN, None),) + self.table[1:], -1)
        self.judged(self.judge, ((0, COIN, (), None),) + self.table[1:], -1)

    def test_sure_rows(self):
        many = len(self.table)
        for number, result in ((1, many), (3, many), (4, many)):
            rows = tuple((cue, COIN, BEGUN, ()) for cue in range(number, 5) if cue != 2)
            self.judged(self.judge, self.table + rows, result)
        # Where it is not asked, one may be sure, if only the mind is empty when it is.
        self.judged(self.judge, self.table + ((2, PASSED, BEGUN, ()), (3, PASSED, (), ()), (4, PASSED, (), ())), None)
        self.judged(self.judge, self.table + ((2, COIN, BEGUN, ()), (3, COIN, BEGUN, ())), many + 1)

    def test_stuck_rows(self):
        act = Act(coin_craft(), (("do", "pass", ""), END))
        judge = lambda table: judge_uncaught(act, PASSED, self.guest, table)
        self.judged(judge, ((0, PASSED, BEGUN, None),), None)
        self.judged(judge, ((0, PASSED, BEGUN, None), (0, PASSED, BEGUN, ()), (0, PASSED, (), BEGUN)), None)
        self.judged(judge, ((0, PASSED, BEGUN, None), (1, PASSED, BEGUN, ())), 1)

    def test_shares_go_on(self):
        # The coin is seen in the hand, where the share does not have it.
        rows = ((2, PASSED, (), BEGUN), (3, PASSED, (), ()), (4, PASSED, (), ()))
        self.judged(self.judge, self.table + rows, None)
        self.judged(self.judge, self.table + rows[:2], 12)
        self.judged(self.judge, self.table + rows[:1] + ((3, PASSED, (), BEGUN), (4, PASSED, (), BEGUN)), 11)
        self.judged(self.judge, self.table + ((4, PASSED, (), BEGUN), (3, PASSED, (), BEGUN)), None)

    def test_rows_of_another_form(self):
        rows = [thing + (BEGUN, None) for thing in NO_STANDINGS if isinstance(thing, tuple)]
        minds = [mind for mind in bad_minds((PASSED, 0), (COIN, 0)) if mind is not None] + [((COIN, 1),)]
        rows.extend([(0, COIN, mind, None) for mind in minds + [None]] + [(0, COIN, BEGUN, share) for share in minds])
        for row in rows + [(0, COIN), ((0, COIN), BEGUN, None), (0, COIN, BEGUN), (0, COIN, BEGUN, None, None)]:
            self.assertEqual(self.judge(self.table + (row,)), 11)
            self.assertEqual(self.judge((row,) + self.table), 0)
            self.assertEqual(self.judge((row,) + self.table[1:]), -1)
        for row in NO_STANDINGS:
            self.assertEqual(self.judge((row,) + self.table), 0)

    def test_each_row_left_out_is_noticed(self):
        for act, start, rng in some_plays(200, 41):
            guest = some_guest(rng, act.craft, start)
            table = Uncaught(act, start, guest).table
            for k, rows in changed_rows(table or ()):
                first = (0, start, guest.beginning, None)
                self.assertEqual(judge_uncaught(act, start, guest, rows) == -1, table[k] == first)
                self.assertIsNotNone(judge_uncaught(act, start, guest, rows))

    def test_no_table_is_right_for_an_act_that_is_caught(self):
        guest = Guest(coin_craft(), (COIN,), ("keep",), 2)
        first = (0, COIN, BEGUN, None)
        self.assertIsNone(Uncaught(self.act, COIN, guest).table)
        self.assertIsNotNone(judge_uncaught(self.act, COIN, guest, self.table + (first,)))

    def test_the_example_of_the_document(self):
        self.assertEqual(Uncaught(coin_act(), COIN, Guest(coin_craft(), (COIN,), ("keep",), 2)).breach, ("0", 0))
