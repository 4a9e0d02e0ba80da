from shownempty.acts import Act
from shownempty.actpairs import ActPair, judge_pairs
from shownempty.compiled import act_of
from shownempty.craft import Craft
from shownempty.errors import BadStatement, BadWorld, TooLong, TooMany
from shownempty.plays import show_of
from shownempty.scripts import Script
from tests.acthelp import changed_rows, moved_by, rich_plays, rows_of, some_act, some_plays
from tests.helpers import NO_STANDINGS, NO_TUPLES, Case, as_lists, coin_act, coin_craft, spoil
from tests.scripthelp import STARTS, some_bodies
from tests.test_standings import BAD_WORLDS

END = ("end",)
COIN = ("a", "", "")
PASSED = ("", "a", "")
BOTH = ("aa", "", "")
HONEST = (("do", "pass", ""), ("ask", 2, 0), ("do", "reach", ""), END)
KEPT = (("do", "pass", "keep"), ("ask", 2, 0), ("do", "reach", ""), END)


def many_pairs(ahead, seen=False):
    """Two acts that are the same but in the first answer, and a start, with 590 pairs and one for each ask ahead.

    If this is told, the second one shows a nod behind the first answer 1.
    """
    craft = Craft(2, (("nod", (), ()), ("left", (("a", 0, 1),), ()), ("right", (("b", 0, 1),), ())))
    ask = ahead + 21
    cues = [("ask", k + 1, k + 1) for k in range(ask)]
    cues.extend([("ask", ask + 1, ask + 3), ("do", "left", ""), ("ask", ahead, ahead)])
    cues.extend([("do", "right", ""), ("ask", ahead, ahead), ("do", "nod", ""), ("ask", 1, 1)])
    first = Act(craft, cues)
    if seen:
        cues[0] = ("ask", 1, len(cues) - 2)
    return first, Act(craft, cues), ("aaaabbbb", "")


class TestActPair(Case):

    def setUp(self):
        self.craft = coin_craft()
        self.kept = Act(self.craft, KEPT)
        self.honest = Act(self.craft, HONEST)

    def test_alike(self):
        # The hand that is never opened does not tell whether the coin was kept, as long as another one is left.
        pair = ActPair(Act(self.craft, KEPT[:1] + (END,)), COIN, Act(self.craft, HONEST[:1] + (END,)), COIN)
        self.assertIs(bool(pair), True)
        self.assertIsNone(pair.answers)
        self.verdict(pair, ())
        self.verdict(ActPair(self.kept, COIN, self.kept, COIN), (((1, COIN), (1, COIN)),))
        self.verdict(ActPair(coin_act(), COIN, coin_act(), ("a", "", "b")), (((1, COIN), (1, ("a", "", "b"))),))

    def test_parted(self):
        for start, answers in ((COIN, "0"), (BOTH, "0"), (PASSED, "")):
            pair = ActPair(self.kept, start, self.honest, start)
            self.assertIs(bool(pair), False)
            self.assertEqual(pair.answers, answers)
            self.verdict(pair, None)

    def test_parted_by_the_rest(self):
        first, second = Act(self.craft, (("ask", 1, 1), END)), Act(self.craft, (("ask", 1, 2), END, ("ask", 2, 2)))
        self.assertEqual(ActPair(first, COIN, second, COIN).answers, "1")
        self.assertEqual(ActPair(first, COIN, Act(self.craft, (END,)), COIN).answers, "")
        stuck = Act(self.craft, (("do", "pass", ""), END))
        self.assertEqual(ActPair(stuck, PASSED, Act(self.craft, (END,)), PASSED).answers, "")
        self.assertEqual(ActPair(stuck, PASSED, stuck, ("", "", "")).answers, None)

    def test_parted_by_a_sight_alone(self):
        act = Act(self.craft, (("do", "open", ""), ("ask", 0, 0)))
        self.assertEqual(ActPair(act, COIN, act, PASSED).answers, "")
        act = Act(self.craft, (("ask", 0, 1), ("do", "open", ""), ("ask", 0, 0)))
        self.assertEqual(ActPair(act, COIN, act, PASSED).answers, "1")
        self.assertEqual(ActPair(act, COIN, act, ("", "", "a")).answers, None)

    def test_crafts_may_differ(self):
        craft = Craft(2, (("pass", (), ()), ("open", (), (0,)), ("reach", (), ())))
        act = Act(craft, (("do", "pass", ""), ("ask", 2, 0), ("do", "open", ""), END))
        pair = ActPair(coin_act(), COIN, act, ("", "z"))
        self.verdict(pair, (((1, COIN), (1, ("", "z"))),))
        self.assertEqual(ActPair(coin_act(), COIN, act, ("z", "")).answers, "0")

    def test_the_least_answers(self):
        craft = self.craft
        first = Act(craft, (("ask", 1, 2), ("ask", 3, 3), ("ask", 3, 4), END, ("do", "open", ""), END))
        second = Act(craft, (("ask", 1, 2), ("ask", 3, 4), ("ask", 3, 5), END, ("do", "open", ""), END))
        self.assertEqual(ActPair(first, COIN, second, COIN).answers, "01")

    def test_attributes(self):
        first, second, start, other = coin_act(), self.kept, list(COIN), list(PASSED)
        pair = ActPair(other=other, second=second, start=start, first=first)
        spoil(start)
        spoil(other)
        self.assertIs(pair.first, first)
        self.assertIs(pair.second, second)
        self.assertEqual((pair.start, pair.other), (COIN, PASSED))

    def test_many_acts(self):
        told = set()
        for act, start, rng in rich_plays(300, 70):
            other = Act(act.craft, [cue if rng.random() < 0.7 or cue[0] != "do" else ("do", cue[1], rng.choice(
                act.craft.manners_of(cue[1]))) for cue in act]) if rng.random() < 0.9 else some_act(rng, act.craft)
            pair = ActPair(act, start, other, start)
            parting = [row for row in rows_of(5) if show_of(act, start, row) != show_of(other, start, row)]
            if parting:
                self.assertEqual(pair.answers, parting[0])
            else:
                self.assertTrue(pair.answers is None or len(pair.answers) > 5)
            self.verdict(pair, pair.table if pair.answers is None else None)
            if pair:
                self.assertEqual(list(pair), sorted(set(pair)))
                self.assertIsNone(judge_pairs(act, start, other, start, pair.table))
                self.assertLessEqual(self.pairs_behind(act, start, other, 4), set(pair))
            told.add((pair.answers and len(pair.answers), min(len(pair), 2)))
        self.assertLessEqual({(None, 0), (None, 1), (None, 2), ("", 0), (1, 0), (2, 0)}, told)

    def pairs_behind(self, act, start, other, most):
        """The pairs at which both rest behind so many answers."""
        pairs = set()
        for row in rows_of(most):
            ends = []
            for one in (act, other):
                last = one.run_from((0, start))[-1]
                for answer in row:
                    last = last and one.run_from(one.followers(last)[int(answer)])[-1] if one.rest_at(last) == "ask" else None
                    if last is None:
                        break
                ends.append(last)
            if None not in ends and act.rest_at(ends[0]) == "ask" and other.rest_at(ends[1]) == "ask":
                pairs.add(tuple(ends))
        return pairs

    def test_an_act_is_seen_like_the_one_with_idle_cues(self):
        for act, start, _ in some_plays(150, 71):
            idle = Act(act.craft, [("go", 1)] + [self.shifted(cue) for cue in act])
            self.assertIs(bool(ActPair(act, start, idle, start)), True)

    def shifted(self, cue):
        if cue[0] == "ask":
            return ("ask", cue[1] + 1, cue[2] + 1)
        return cue[:-1] + (cue[-1] + 1,) if cue[0] in ("go", "glance") else cue

    def test_scripts_written_in_another_way(self):
        craft = coin_craft()
        for body in some_bodies(60):
            try:
                first = act_of(Script(craft, body))
                second = act_of(Script(craft, (("peek", 0, "a", body, body),)))
            except (BadStatement, TooLong, TooMany):
                continue
            for start in STARTS:
                self.assertIs(bool(ActPair(first, start, second, start)), True)

    def test_600_and_601(self):
        first, second, start = many_pairs(10)
        pair = ActPair(first, start, second, start)
        self.assertEqual((len(pair), pair.answers), (600, None))
        self.refused(TooMany("pair"), ActPair, *self.both(many_pairs(11)))
        self.assertEqual(ActPair(*self.both(many_pairs(10, True))).answers, "1")
        # They are counted whether or not the acts are seen alike.
        self.refused(TooMany("pair"), ActPair, *self.both(many_pairs(11, True)))

    def both(self, told):
        first, second, start = told
        return first, start, second, start

    def test_unlike_from_the_beginning_has_no_pairs(self):
        first, _, start = many_pairs(11)
        second = Act(first.craft, (("do", "nod", ""),) + tuple(moved_by(first.cues, 1)[:-2]) + (END,))
        self.assertEqual(ActPair(first, start, second, start).answers, "")

    def test_errors_in_their_order(self):
        first, second, start = many_pairs(11)
        for call in (ActPair, lambda *args: judge_pairs(*args, ())):
            for world in BAD_WORLDS:
                self.refused(BadWorld(world), call, self.kept, world, self.honest, "none")
                self.refused(BadWorld(world), call, self.kept, COIN, self.honest, world)
            self.refused(BadWorld(COIN), call, first, start, second, COIN)
            self.refused(BadWorld(COIN), call, first, COIN, self.kept, COIN)


class TestJudged(Case):

    # Two asks one after the other; the second act goes back to its first ask by a longer way.
    FIRST = (("ask", 1, 2), ("do", "reach", ""), ("ask", 0, 0))
    SECOND = (("ask", 1, 3), ("do", "reach", ""), ("go", 3), ("ask", 0, 0))

    def setUp(self):
        self.first, self.second = Act(coin_craft(), self.FIRST), Act(coin_craft(), self.SECOND)
        self.table = (((0, COIN), (0, COIN)), ((2, COIN), (3, COIN)))

    def judge(self, table):
        return judge_pairs(self.first, COIN, self.second, COIN, table)

    def test_closed(self):
        self.assertEqual(ActPair(self.first, COIN, self.second, COIN).table, self.table)
        self.judged(self.judge, self.table, None)
        self.judged(self.judge, self.table[::-1] + self.table, None)
        self.assertIsNone(judge_pairs(self.first, list(COIN), self.second, list(COIN), as_lists(self.table)))

    def test_rows_left_out(self):
        self.judged(self.judge, self.table[1:], -1)
        self.judged(self.judge, self.table[:1], 0)
        self.judged(self.judge, (), -1)

    def test_first_runs_that_show_unlike_things(self):
        for cues in ((("do", "reach", ""), ("ask", 0, 0)), (END,)):
            self.assertEqual(judge_pairs(self.first, COIN, Act(coin_craft(), cues), COIN, self.table), -1)

    def test_no_pairs_are_needed(self):
        act = Act(coin_craft(), (("do", "open", ""), END))
        self.assertIsNone(judge_pairs(act, COIN, act, ("", "", "a"), ()))
        self.assertEqual(judge_pairs(act, COIN, act, PASSED, ()), -1)
        stuck = Act(coin_craft(), (("do", "pass", ""), END))
        self.assertIsNone(judge_pairs(stuck, PASSED, stuck, ("", "", ""), ()))
        self.assertEqual(judge_pairs(stuck, PASSED, Act(coin_craft(), (END,)), PASSED, ()), -1)

    def test_rows_that_show_unlike_things(self):
        # Not the same rest, not the same events, not the same sight.
        self.judged(self.judge, self.table + (((0, COIN), (3, COIN)),), 2)
        self.judged(self.judge, self.table + (((0, COIN), (0, PASSED)),), 2)
        act = Act(coin_craft(), (("ask", 0, 1), END))
        self.assertEqual(judge_pairs(self.first, COIN, act, COIN, (((0, COIN), (0, COIN)),)), 0)

    def test_rows_never_reached(self):
        rows = (((0, PASSED), (0, PASSED)), ((2, PASSED), (3, PASSED)))
        self.judged(self.judge, self.table + rows, None)
        self.judged(self.judge, self.table + rows[:1], 2)

    def test_rows_of_another_form(self):
        rows = [(thing, (0, COIN)) for thing in NO_STANDINGS] + [((0, COIN), thing) for thing in NO_STANDINGS]
        rows.extend([((1, COIN), (0, COIN)), ((0, COIN), (1, COIN)), ((1, COIN), (1, COIN)), ((0, COIN), (2, COIN)),
                     ((3, COIN), (3, COIN)), ((2, COIN), (2, COIN)), ((1, PASSED), (1, PASSED)),
                     ((2, COIN), (4, COIN)), ((0, COIN),), ((0, COIN), (0, COIN), 0), (0, COIN)])
        for row in rows + list(NO_TUPLES):
            self.assertEqual(self.judge(self.table + (row,)), 2)
            self.assertEqual(self.judge((row,) + self.table), 0)
            self.assertEqual(self.judge((row,) + self.table[1:]), -1)

    def test_standings_at_no_ask_are_no_pair(self):
        # At an end and where it is stuck nothing is lacking behind them.
        act = Act(coin_craft(), (("ask", 1, 2), ("do", "pass", ""), END))
        table = ActPair(act, COIN, act, COIN).table
        self.assertEqual(table, (((0, COIN), (0, COIN)),))
        for standing in ((1, COIN), (1, PASSED), (2, COIN)):
            self.judged(lambda rows: judge_pairs(act, COIN, act, COIN, rows), table + ((standing, standing),), 1)

    def test_each_row_left_out_is_noticed(self):
        for act, start, _ in rich_plays(100, 72):
            table = ActPair(act, start, act, start).table
            for k, rows in changed_rows(table):
                self.assertIsNotNone(judge_pairs(act, start, act, start, rows))

    def test_no_table_is_closed_for_acts_that_are_not_alike(self):
        for act, start, rng in rich_plays(100, 73):
            other = some_act(rng, act.craft)
            if not ActPair(act, start, other, start):
                table = [(one, two) for one in self.asks(act, start) for two in self.asks(other, start)]
                self.assertIsNotNone(judge_pairs(act, start, other, start, table))

    def asks(self, act, start):
        return [(k, start) for k, cue in enumerate(act) if cue[0] == "ask"]

    def test_more_pairs_than_a_verdict_can_have(self):
        first, second, start = many_pairs(11)
        table = [((k, start), (k, start)) for k in range(32)]
        self.assertEqual(judge_pairs(first, start, second, start, table), 31)
