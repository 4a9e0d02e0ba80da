from shownempty.acts import Act
from shownempty.errors import TooMany
from shownempty.guests import Guest
from shownempty.judgestands import judge_catch, judge_stand
from shownempty.stands import Stand
from tests.acthelp import changed_rows
from tests.helpers import NO_INTEGERS, Case, as_lists, coin_craft, partly_lists
from tests.standhelp import Parlour, many_situations, restless_stands, some_stands
from tests.test_stands import ANY, BOTH, COIN, CUES, END, LOADED, PASSED, THINKS, bad_situations

# With at most one challenge: the right hand may be opened, and the coin of the pocket is loaded.
SOUND = ((1, BOTH, THINKS, 0), (1, LOADED, THINKS, 1), (2, BOTH, THINKS, 0), (2, LOADED, THINKS, 1))
# Nothing can be loaded.
LOST = (((1, COIN, THINKS, 0), 2), ((2, COIN, THINKS, 0), 1))


class TestSituations(Case):

    def setUp(self):
        self.act = Act(coin_craft(), CUES)
        self.guest = Guest.layman(coin_craft(), COIN)

    def judge(self, table):
        return judge_stand(self.act, BOTH, self.guest, ANY, ("open",), 1, table)

    def test_right(self):
        self.judged(self.judge, SOUND, None)
        self.judged(self.judge, SOUND[::-1] + SOUND, None)
        self.assertIsNone(judge_stand(self.act, list(BOTH), self.guest, list(ANY), ["open"], 1, as_lists(SOUND)))
        self.assertIsNone(self.judge(partly_lists(SOUND)))

    def test_rows_left_out(self):
        for k, rows in changed_rows(SOUND):
            self.judged(self.judge, rows, (-1, 0, 0, 1)[k])

    def test_challenges_that_may_be_named(self):
        # When one has been named already, no other may be; with none let, the answers are enough.
        judge = lambda table: judge_stand(self.act, COIN, self.guest, ANY, ("open",), 0, table)
        self.judged(judge, ((1, COIN, THINKS, 0), (2, COIN, THINKS, 0)), None)
        self.judged(lambda table: judge_stand(self.act, COIN, self.guest, ANY, ("open",), 1, table),
                    ((1, COIN, THINKS, 0), (2, COIN, THINKS, 0)), 0)
        self.judged(lambda table: judge_stand(self.act, COIN, self.guest, ANY, ("open",), 1, table),
                    ((2, COIN, THINKS, 1), (1, COIN, THINKS, 1), (1, COIN, THINKS, 0)), 2)
        self.judged(lambda table: judge_stand(self.act, COIN, self.guest, ANY, (), None, table),
                    ((1, COIN, THINKS, 0), (2, COIN, THINKS, 0)), None)
        # At an end, too.
        self.judged(lambda table: judge_stand(self.act, COIN, self.guest, ANY, ("open",), None, table),
                    ((2, COIN, THINKS, 0), (1, COIN, THINKS, 0)), 0)

    def test_one_manner_that_meets_is_enough(self):
        # The kept pass is enough, the honest one is enough, but one of them must be there.
        guest = Guest(coin_craft(), (("aa", "", ""),), ("keep",), 2)
        act = Act(coin_craft(), (("ask", 1, 1), END))
        first, mind = ("aa", "", ""), ((("a", "a", ""), 0), (("aa", "", ""), 1))
        begun = [(number, first, ((first, 0),), 0) for number in (0, 1)]
        kept = [(number, first, mind, 1) for number in (0, 1)]
        passed = [(number, ("a", "a", ""), mind, 1) for number in (0, 1)]
        judge = lambda table: judge_stand(act, first, guest, ANY, ("pass",), 1, table)
        for more, result in ((kept, None), (passed, None), (kept + passed, None), ([], 0), (kept[:1], 1), (kept[1:], 0)):
            self.judged(judge, begun + more, result)

    def test_a_manner_that_does_not_meet_is_of_no_use(self):
        # By opening the empty hand he would be left with nothing to think.
        rows = SOUND[:1] + SOUND[2:3] + ((1, BOTH, (), 1), (2, BOTH, (), 1))
        self.judged(self.judge, rows, 0)

    def test_broken_situations(self):
        judge = lambda table: judge_stand(self.act, BOTH, self.guest, ("a", "", None), ("open",), 1, table)
        self.judged(judge, SOUND, 3)
        self.judged(judge, SOUND[:2] + SOUND[3:], 0)
        act = Act(coin_craft(), (("ask", 1, 2), ("do", "open", "load"), END))
        rows = ((0, COIN, ((COIN, 0),), 0), (1, COIN, ((COIN, 0),), 0), (2, COIN, ((COIN, 0),), 0))
        self.judged(lambda table: judge_stand(act, COIN, self.guest, ANY, (), 1, table), rows, 1)

    def test_rows_never_reached(self):
        self.judged(self.judge, SOUND + ((2, COIN, THINKS, 1),), None)
        self.judged(self.judge, SOUND + ((2, COIN, THINKS, 0),), 4)
        self.judged(self.judge, SOUND + ((2, COIN, (), 0),), 4)
        self.judged(self.judge, SOUND + ((2, COIN, (), 0), (2, COIN, (), 1)), None)

    def test_rows_of_another_form(self):
        rows = bad_situations()
        for row in rows:
            self.assertEqual(self.judge(SOUND + (row,)), 4)
            self.assertEqual(self.judge((row,) + SOUND), 0)
            self.assertEqual(self.judge((row,) + SOUND[1:]), -1)

    def test_standings_that_are_not_at_rest(self):
        # If it were a situation, all that is asked of it would hold.
        act = Act(coin_craft(), (("do", "reach", ""), ("ask", 2, 2), END))
        begun = ((COIN, 0),)
        row = (0, COIN, begun, 0)
        rows = ((1, COIN, begun, 0), (2, COIN, begun, 0))
        self.judged(lambda table: judge_stand(act, COIN, self.guest, ANY, (), None, table), rows, None)
        self.judged(lambda table: judge_stand(act, COIN, self.guest, ANY, (), None, table), rows + (row,), 2)
        rows = ((rows[0], 1), (rows[1], 0))
        self.judged(lambda table: judge_catch(act, COIN, self.guest, PASSED, (), None, table), rows, None)
        self.judged(lambda table: judge_catch(act, COIN, self.guest, PASSED, (), None, table), rows + ((row, 2),), 2)

    def test_how_often_they_were_named_lies_within_its_bounds(self):
        for most, made in ((None, 1), (0, 1), (2, 3)):
            rows = ((1, COIN, THINKS, 0), (2, COIN, THINKS, 0), (2, COIN, THINKS, made))
            self.assertEqual(judge_stand(self.act, COIN, self.guest, ANY, (), most, rows), 2)
            self.assertEqual(judge_catch(self.act, COIN, self.guest, PASSED, (), most,
                                         [(row, 3 - k) for k, row in enumerate(rows)]), 2)

    def test_the_first_one_is_lacking(self):
        self.judged(self.judge, (), -1)
        self.judged(self.judge, SOUND[1:], -1)
        self.judged(self.judge, ((0, BOTH, THINKS, 0),) + SOUND[1:], -1)

    def test_more_situations_than_a_stand_can_have(self):
        act, start, guest = many_situations(1)
        self.refused(TooMany("situation"), Stand, act, start, guest, (None, None), ())
        rows = [(k, start, guest.beginning, 0) for k in range(30)]
        self.assertEqual(judge_stand(act, start, guest, (None, None), (), None, rows), 29)

    def test_many_stands(self):
        told = set()
        for args, rng in some_stands(250, 83):
            most = rng.choice((0, 1, 2, None))
            parlour = Parlour(*args, most)
            delays = parlour.delays()
            table = tuple([here for here in parlour.situations() if here not in delays])
            right = judge_stand(*args, most, table)
            self.assertEqual(right, None if parlour.first() not in delays else -1)
            told.add(right)
            for here in delays:
                self.assertIsNotNone(judge_stand(*args, most, table + (here,)))
            if table and right is None and len(table) < 30:
                for k, rows in changed_rows(table):
                    needed = table[k] == parlour.first() or any(self.needs(parlour, here, table[k], rows) for here in rows)
                    self.assertEqual(judge_stand(*args, most, rows) is not None, needed)
        self.assertEqual(told, {None, -1})

    def needs(self, parlour, here, lacking, rows):
        """Whether one cannot go on from a situation without the one that is lacking."""
        if lacking in parlour.answers(here).values():
            return True
        return not all(any(behind in rows for _, behind in parlour.meetings(here, gesture))
                       for gesture in parlour.named(here))


class TestDelays(Case):

    def setUp(self):
        self.act = Act(coin_craft(), CUES)
        self.guest = Guest.layman(coin_craft(), COIN)

    def judge(self, table):
        return judge_catch(self.act, COIN, self.guest, ANY, ("open",), 1, table)

    def test_right(self):
        self.judged(self.judge, LOST, None)
        self.judged(self.judge, LOST[::-1] + LOST, None)
        self.assertIsNone(judge_catch(self.act, list(COIN), self.guest, list(ANY), ["open"], 1, partly_lists(LOST)))
        # One challenge that no manner meets is enough: so any delay is right.
        self.judged(self.judge, (((1, COIN, THINKS, 0), 0),), None)
        self.judged(self.judge, (((1, COIN, THINKS, 0), 10 ** 39), ((2, COIN, THINKS, 0), 10 ** 39)), None)

    def test_answers(self):
        # It is not opened, but at the end the coin shall be in the right hand.
        judge = lambda table: judge_catch(self.act, COIN, self.guest, PASSED, (), None, table)
        end = (2, COIN, THINKS, 0)
        self.judged(judge, (((1, COIN, THINKS, 0), 1), (end, 0)), None)
        self.judged(judge, (((1, COIN, THINKS, 0), 9), (end, 8)), None)
        self.judged(judge, (((1, COIN, THINKS, 0), 0), (end, 0)), 0)
        self.judged(judge, (((1, COIN, THINKS, 0), 3), (end, 3)), 0)
        self.judged(judge, (((1, COIN, THINKS, 0), 3),), 0)
        self.judged(judge, ((end, 0),), -1)
        # One of the two answers is enough.
        act = Act(coin_craft(), (("ask", 1, 2), END, ("ask", 2, 2)))
        begun = ((COIN, 0),)
        for table, result in (((((0, COIN, begun, 0), 1), ((1, COIN, begun, 0), 0)), None),
                              ((((0, COIN, begun, 0), 1), ((2, COIN, begun, 0), 0)), 1)):
            self.judged(lambda rows: judge_catch(act, COIN, self.guest, PASSED, (), None, rows), table, result)

    def test_all_manners_that_meet_it(self):
        guest = Guest(coin_craft(), (("aa", "", ""),), ("keep",), 2)
        act = Act(coin_craft(), (END,))
        first, mind = ("aa", "", ""), ((("a", "a", ""), 0), (("aa", "", ""), 1))
        begun = ((0, first, ((first, 0),), 0), 2)
        kept, passed = (0, first, mind, 0), (0, ("a", "a", ""), mind, 0)
        judge = lambda table: judge_catch(act, first, guest, (None, "", None), ("pass",), None, table)
        # Behind the honest pass the end is broken; behind the kept one it is not.
        self.judged(judge, (begun, (passed, 0)), 0)
        self.judged(judge, (begun, (passed, 0), (kept, 1)), 2)
        judge = lambda table: judge_catch(act, first, guest, ("", None, None), ("pass",), None, table)
        self.judged(judge, (begun, (passed, 0), (kept, 0)), None)
        self.judged(judge, ((begun[0], 0), (passed, 9), (kept, 9)), None)
        # From a world that is never reached both are needed, with lesser delays.
        act = Act(coin_craft(), (("ask", 0, 1), END))
        judge = lambda table: judge_catch(act, first, guest, ANY, ("pass", "reach"), None, table)
        self.judged(judge, (begun,), 0)

    def test_lesser_delays_behind_a_challenge(self):
        # Two coins go over, as they are asked for; then there is nothing left.
        craft = coin_craft().without("keep")
        start = ("aa", "", "")
        guest = Guest.layman(craft, start)
        act = Act(craft, (END,))
        rows = tuple(((0, world, ((world, 0),), 0), delay)
                     for delay, world in ((3, start), (2, ("a", "a", "")), (1, ("", "aa", ""))))
        judge = lambda table: judge_catch(act, start, guest, ANY, ("pass",), None, table)
        self.judged(judge, rows, None)
        for k, rows_left in changed_rows(rows):
            self.judged(judge, rows_left, (-1, 0, 1)[k])
        self.judged(judge, ((rows[0][0], 2),) + rows[1:], 0)
        self.judged(judge, rows[:1] + ((rows[1][0], 3),) + rows[2:], 0)
        self.judged(judge, rows[:2] + ((rows[2][0], 0),), None)
        self.judged(judge, rows[:2] + ((rows[2][0], 2),), 1)

    def test_broken_situations(self):
        judge = lambda table: judge_catch(self.act, COIN, self.guest, PASSED, (), None, table)
        for delay in (0, 7, 10 ** 39):
            self.judged(judge, (((1, COIN, THINKS, 0), 10 ** 39 + 1), ((2, COIN, THINKS, 0), delay)), None)
        act = Act(coin_craft(), (("do", "open", "load"), END))
        begun = ((COIN, 0),)
        self.judged(lambda table: judge_catch(act, COIN, self.guest, ANY, ("open",), 1, table),
                    (((0, COIN, begun, 0), 5), ((1, COIN, begun, 1), 0)), 1)

    def test_the_first_of_several_rows_counts(self):
        judge = lambda table: judge_catch(self.act, COIN, self.guest, PASSED, (), None, table)
        first, end = (1, COIN, THINKS, 0), (2, COIN, THINKS, 0)
        self.judged(judge, ((first, 1), (end, 0), (end, 1)), None)
        self.judged(judge, ((first, 1), (end, 1), (end, 0)), 0)
        self.judged(judge, ((first, 1), (end, -1), (end, 0)), 1)
        self.judged(judge, ((end, 0), (first, 1), (first, 0)), 2)

    def test_rows_of_another_form(self):
        # No end is as it is wished: so all ends would be right with any delay.
        judge = lambda table: judge_catch(self.act, COIN, self.guest, ("z", None, None), ("open",), 1, table)
        self.judged(judge, LOST + (((2, BOTH, THINKS, 1), 0),), None)
        rows = [(row, 0) for row in bad_situations()] + bad_situations()
        rows.extend((LOST[k][0], number) for k in (0, 1) for number in NO_INTEGERS + (-1,))
        for row in rows + [LOST[0][0], (LOST[0][0],), LOST[0] + (0,)]:
            self.assertEqual(judge(LOST + (row,)), 2)
            self.assertEqual(judge((row,) + LOST), 0)
            self.assertEqual(judge((row,) + LOST[1:]), -1)

    def test_the_first_one_is_lacking(self):
        self.judged(self.judge, (), -1)
        self.judged(self.judge, LOST[1:], -1)

    def test_more_situations_than_a_stand_can_have(self):
        act, start, guest = many_situations(1)
        rows = [((k, start, guest.beginning, 0), 40 - k) for k in range(30)]
        self.assertEqual(judge_catch(act, start, guest, (None, None), (), None, rows), 29)

    def test_many_stands(self):
        told = set()
        for stands in (some_stands(150, 84), restless_stands(60, 85)):
            for args, rng in stands:
                most = rng.choice((0, 1, 2))
                parlour = Parlour(*args, most)
                if len(parlour.situations()) > 200:
                    continue
                delays = parlour.delays()
                table = tuple(sorted(delays.items()))
                right = judge_catch(*args, most, table)
                self.assertEqual(right, None if parlour.first() in delays else -1)
                told.add(right)
                for k, (here, delay) in enumerate(table):
                    if delay > 0 and right is None:
                        rows = table[:k] + ((here, delay - 1),) + table[k + 1:]
                        good = min(left for _, left in parlour.left_by(here, delays)) == 0 and self.at_once(parlour, here)
                        self.assertEqual(judge_catch(*args, most, rows) is None, good)
        self.assertEqual(told, {None, -1})

    def at_once(self, parlour, here):
        """Whether some challenge is met by no manner."""
        return any(parlour.meetings(here, gesture) == () for gesture in parlour.named(here))
