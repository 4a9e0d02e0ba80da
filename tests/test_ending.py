from shownempty.acts import Act
from shownempty.ending import Ending, judge_ending
from shownempty.errors import BadWorld, TooMany
from shownempty.plays import Play
from shownempty.smooth import Smooth
from shownempty.standings import Standings
from tests.acthelp import changed_rows, rows_of, runs_behind, some_plays
from tests.helpers import NO_INTEGERS, NO_STANDINGS, Case, as_lists, coin_act, coin_craft, spoil
from tests.test_standings import BAD_WORLDS, long_act, many_standings

END = ("end",)
PASS = ("do", "pass", "")
COIN = ("a", "", "")
PASSED = ("", "a", "")
# The guests may have the coin shown once or twice, then it is passed.
CUES = (("ask", 1, 2), ("ask", 2, 3), ("do", "open", ""), PASS, END)
RANKS = (((0, COIN), 2), ((1, COIN), 1), ((2, COIN), 0), ((3, COIN), 0), ((4, PASSED), 0))


def rank_of(act, standing):
    """The rank as the document tells it."""
    ranks = [rank_of(act, follower) for follower in act.followers(standing)]
    return max(ranks + [0]) + (act.rest_at(standing) == "ask")


class TestEnding(Case):

    def setUp(self):
        self.act = Act(coin_craft(), CUES)

    def test_it_ends(self):
        ending = Ending(self.act, COIN)
        self.assertIs(bool(ending), True)
        self.assertIsNone(ending.breach)
        self.verdict(ending, RANKS)

    def test_a_loop(self):
        ending = Ending(coin_act(), COIN)
        self.assertIs(bool(ending), False)
        self.assertEqual(ending.breach, ("loop", "", "1"))
        self.assert_plain(ending.breach)
        self.verdict(ending, None)

    def test_stuck(self):
        ending = Ending(Act(coin_craft(), (PASS, ("ask", 2, 0), END)), COIN)
        self.assertEqual((bool(ending), ending.breach), (False, ("stuck", "1")))
        self.verdict(ending, None)
        self.assertEqual(Ending(Act(coin_craft(), (PASS, END)), PASSED).breach, ("stuck", ""))

    def test_stuck_goes_ahead_of_loops(self):
        # There is a loop at once, and a stuck standing only behind two answers.
        act = Act(coin_craft(), (("ask", 0, 1), ("ask", 4, 2), ("do", "pass", ""), END, END))
        self.assertEqual(Ending(act, COIN).breach, ("loop", "", "0"))
        self.assertEqual(Ending(act, PASSED).breach, ("stuck", "11"))

    def test_the_least_answers_and_the_least_loop(self):
        craft = coin_craft()
        # A loop behind 1 with the length 2, and one behind 00 with the length 1.
        act = Act(craft, (("ask", 1, 2), ("ask", 4, 5), ("ask", 3, 5), ("ask", 2, 2), ("ask", 4, 4), END))
        self.assertEqual(Ending(act, COIN).breach, ("loop", "1", "00"))
        # Both answers lead back, the one by a longer way.
        act = Act(craft, (("ask", 1, 0), ("ask", 0, 0)))
        self.assertEqual(Ending(act, COIN).breach, ("loop", "", "1"))
        act = Act(craft, (("ask", 1, 1), ("ask", 2, 2), ("ask", 3, 1), END))
        self.assertEqual(Ending(act, COIN).breach, ("loop", "0", "01"))
        act = Act(craft, (("ask", 0, 0), END))
        self.assertEqual(Ending(act, COIN).breach, ("loop", "", "0"))

    def test_a_standing_with_another_world_is_no_loop(self):
        act = Act(coin_craft(), (("glance", 1, "a", 4), ("ask", 2, 2), ("do", "pass", ""), ("ask", 0, 0), END))
        ending = Ending(act, COIN)
        self.assertEqual([rank for _, rank in ending], [0, 2, 2, 1, 1, 0])
        self.assertEqual(ending.breach, None)

    def test_only_an_end(self):
        self.verdict(Ending(Act(coin_craft(), (END,)), COIN), (((0, COIN), 0),))

    def test_attributes(self):
        start = list(COIN)
        ending = Ending(start=start, act=self.act)
        spoil(start)
        self.assertIs(ending.act, self.act)
        self.assertEqual(ending.start, COIN)
        self.assert_plain(ending.start)

    def test_long_acts(self):
        act, start = long_act(END)
        ending = Ending(act, start)
        self.assertEqual(ending.table[0], ((0, ("", "a" * 8)), 0))
        self.assertEqual(dict(ending)[0, start], 400)
        self.assertIsNone(judge_ending(act, start, ending.table))

    def test_600_and_601(self):
        act, start = many_standings(10)
        self.assertEqual(Ending(act, start).breach, ("stuck", "0" * 9))
        self.refused(TooMany("standing"), Ending, *many_standings(11))

    def test_bad_worlds(self):
        for start in BAD_WORLDS:
            self.refused(BadWorld(start), Ending, self.act, start)
            self.refused(BadWorld(start), judge_ending, self.act, start, RANKS)

    def test_many_acts(self):
        told = set()
        for act, start, _ in some_plays(600):
            ending = Ending(act, start)
            self.assertIs(bool(ending), ending.breach is None)
            if ending:
                self.verdict(ending, tuple((standing, rank_of(act, standing)) for standing in Standings(act, start)))
                self.assertIsNone(judge_ending(act, start, ending.table))
            else:
                self.verdict(ending, None)
                self.breach(act, start, ending.breach)
            told.add(ending.breach and (ending.breach[0],) + tuple(len(row) for row in ending.breach[1:]))
        self.assertLessEqual({None, ("stuck", 0), ("stuck", 2), ("loop", 1, 1), ("loop", 0, 2)}, told)

    def breach(self, act, start, breach):
        """The breach is the least one."""
        if breach[0] == "stuck":
            self.assertEqual(breach, ("stuck", Smooth(act, start).answers))
            return
        self.assertTrue(Smooth(act, start))
        runs = runs_behind(act, start, 6)
        for row in runs:
            loops = [loop for loop in list(rows_of(4))[1:] if self.leads_back(act, runs[row][-1], loop)]
            if loops:
                self.assertEqual(breach, ("loop", row, loops[0]))
                return

    def leads_back(self, act, standing, loop):
        at = standing
        for answer in loop:
            if act.rest_at(at) != "ask":
                return False
            at = act.run_from(act.followers(at)[int(answer)])[-1]
        return at == standing

    def test_breaches_can_be_played(self):
        for act, start, _ in some_plays(300, 1):
            breach = Ending(act, start).breach
            if breach and breach[0] == "loop":
                last = Play(act, start, breach[1]).last
                for times in (1, 2, 5):
                    self.assertEqual(Play(act, start, breach[1] + times * breach[2]).last, last)


class TestJudged(Case):

    def setUp(self):
        self.act = Act(coin_craft(), CUES)

    def judge(self, table):
        return judge_ending(self.act, COIN, table)

    def test_right(self):
        self.judged(self.judge, RANKS, None)
        self.judged(self.judge, RANKS[::-1] + RANKS, None)
        self.assertIsNone(judge_ending(self.act, list(COIN), as_lists(RANKS)))

    def test_greater_ranks_are_right(self):
        self.judged(self.judge, (((0, COIN), 10 ** 40),) + RANKS[1:], None)
        self.judged(self.judge, [(standing, 3 * rank + 7) for standing, rank in RANKS], None)

    def test_rows_left_out(self):
        for k, rows in changed_rows(RANKS):
            self.judged(self.judge, rows, (-1, 0, 0, 1, 3)[k])

    def test_the_ranks_go_down_at_an_ask_alone(self):
        self.judged(self.judge, (((0, COIN), 1),) + RANKS[1:], 0)
        self.judged(self.judge, RANKS[:1] + (((1, COIN), 0),) + RANKS[2:], 1)
        self.judged(self.judge, RANKS[:2] + (((2, COIN), 1),) + RANKS[3:], 1)
        self.judged(self.judge, RANKS[:3] + (((3, COIN), 1),) + RANKS[4:], 1)
        self.judged(self.judge, RANKS[:4] + (((4, PASSED), 1),), 3)
        self.judged(self.judge, [(standing, rank + (standing[0] >= 3)) for standing, rank in RANKS], 1)

    def test_both_followers(self):
        act = Act(coin_craft(), (("ask", 1, 2), END, END))
        for ranks, result in (((1, 0, 0), None), ((1, 1, 0), 0), ((1, 0, 1), 0), ((0, 0, 0), 0)):
            self.judged(lambda table: judge_ending(act, COIN, table),
                        [((k, COIN), rank) for k, rank in enumerate(ranks)], result)

    def test_stuck_rows_and_rows_never_reached(self):
        self.judged(self.judge, RANKS + (((3, PASSED), 9),), 5)
        self.judged(self.judge, RANKS + (((4, COIN), 9), ((4, ("", "", "zz")), 0)), None)
        self.judged(self.judge, RANKS + (((2, PASSED), 9),), 5)

    def test_the_first_of_several_rows_counts(self):
        self.judged(self.judge, RANKS + (((1, COIN), 2),), None)
        self.judged(self.judge, (((1, COIN), 2),) + RANKS, 1)
        # A row without the form tells nothing to others.
        self.judged(self.judge, RANKS + (((1, COIN), -1),), 5)
        self.judged(self.judge, (((1, COIN), -1),) + RANKS, 0)

    def test_rows_of_another_form(self):
        rows = [(row, 0) for row in NO_STANDINGS] + [((0, COIN), rank) for rank in NO_INTEGERS + (-1,)]
        for row in rows + [(0, COIN), ((0, COIN),), ((0, COIN), 2, 0)] + list(NO_STANDINGS):
            self.assertEqual(self.judge(RANKS + (row,)), 5)
            self.assertEqual(self.judge((row,) + RANKS), 0)
            self.assertEqual(self.judge((row,) + RANKS[1:]), -1)

    def test_the_first_one_is_lacking(self):
        self.judged(self.judge, (), -1)
        self.judged(self.judge, (((0, PASSED), 5),) + RANKS[1:], -1)

    def test_no_table_is_right_for_an_act_that_does_not_end(self):
        act = coin_act()
        for ranks in ((0, 0, 0, 0), (9, 9, 0, 0), (1, 2, 0, 0), (5, 4, 3, 2)):
            table = [((k, COIN), rank) for k, rank in enumerate(ranks)]
            self.assertIsNotNone(judge_ending(act, COIN, table))

    def test_each_row_left_out_or_lowered_is_noticed(self):
        for act, start, _ in some_plays(150, 2):
            ending = Ending(act, start)
            for k, rows in changed_rows(ending.table or ()):
                standing, rank = ending.table[k]
                self.assertEqual(judge_ending(act, start, rows) == -1, standing == (0, start))
                if rank:
                    lowered = ending.table[:k] + ((standing, rank - 1),) + ending.table[k + 1:]
                    self.assertEqual(judge_ending(act, start, lowered), k)

    def test_more_standings_than_a_verdict_can_have(self):
        act, start = many_standings(11)
        self.assertEqual(judge_ending(act, start, [((k, start), 0) for k in range(30)]), 29)
