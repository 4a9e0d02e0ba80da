import itertools
import random

from shownempty.blindwait import BlindWait, judge_blind
from shownempty.craft import Craft
from shownempty.errors import BadEyes, BadPatter, NoGesture, NoManner
from shownempty.habits import Habits
from tests.acthelp import changed_rows, some_lot
from tests.helpers import NO_TUPLES, Case, as_lists, coin_craft, spoil
from tests.test_habits import BAD_EYE_LOTS, NO_GESTURES
from tests.test_waiting import BAD_PATTERS, PATTER, RULES, some_waits

LOTS = ((0, 2), (1, 2))


class TestBlindWait(Case):

    def setUp(self):
        self.habits = Habits(coin_craft(), RULES)

    def test_a_row(self):
        blind = BlindWait(self.habits, "open", "load", PATTER, (1, 2))
        self.assertIs(bool(blind), True)
        self.assertEqual(blind.row, ("pass",))
        self.verdict(blind, None)

    def test_safe_at_once(self):
        for eyes in ((0,), (0, 2), [2]):
            self.assertEqual(BlindWait(self.habits, "open", "load", PATTER, eyes).row, ())

    def test_no_row(self):
        blind = BlindWait(self.habits, "open", "load", ("pass",), (0, 1))
        self.assertIs(bool(blind), False)
        self.assertIsNone(blind.row)
        self.verdict(blind, ((0, 1), (0, 1, 2)))

    def test_all_lots_that_come(self):
        self.verdict(BlindWait(self.habits, "open", "load", PATTER, (3, )), ((0, 1), (0, 1, 2), (3,)))
        self.verdict(BlindWait(self.habits, "open", "load", ("pass",), (1, 3)), ((0, 2, 3), (1, 2, 3), (1, 3)))

    def test_a_longer_row(self):
        rules = (("pass", ((0,), (2,), (1,), (3,))), ("reach", ((0,), (1,), (2,), (1,))), ("open", ((0,), (1,), (2,), (3,))))
        self.assertEqual(BlindWait(Habits(coin_craft(), rules), "open", "load", PATTER, (3,)).row, ("reach", "pass"))

    def test_the_least_row_as_a_tuple_of_names(self):
        # The order of the patter does not matter.
        rules = (("pass", ((0,),) * 4), ("reach", ((2,),) * 4))
        for patter in (("pass", "reach"), ("reach", "pass")):
            self.assertEqual(BlindWait(Habits(coin_craft(), rules), "open", "load", patter, (1, 3)).row, ("pass",))
        rules = (("pass", ((0,), (1,), (2,), (2,))), ("reach", ((0,), (0,), (2,), (3,))))
        for patter in (("pass", "reach"), ("reach", "pass")):
            self.assertEqual(BlindWait(Habits(coin_craft(), rules), "open", "load", patter, (1, 3)).row,
                             ("pass", "reach"))

    def test_attributes(self):
        patter, eyes = list(PATTER), [1, 2]
        blind = BlindWait(eyes=eyes, patter=patter, manner="load", gesture="open", habits=self.habits)
        spoil(patter)
        spoil(eyes)
        self.assertIs(blind.habits, self.habits)
        self.assertEqual((blind.gesture, blind.manner, blind.patter, blind.eyes), ("open", "load", PATTER, (1, 2)))
        self.assert_plain(blind.row)

    def test_8_names_and_9(self):
        craft = Craft(2, [(letter, (), ()) for letter in "hgfedcba"], (("slip", "a", (), 1, (0,)),))
        habits = Habits(craft, ((("h", ((1,), (1,), (2,)))),))
        self.assertEqual(BlindWait(habits, "a", "slip", tuple("abcdefgh"), (0, 1)).row, ("h",))
        self.refused(BadPatter(-1), BlindWait, habits, "a", "slip", tuple("abcdefghh"), (0, 1))

    def test_many(self):
        rng = random.Random(3)
        told = set()
        for waiting in some_waits(600, 4, (1,)):
            habits, gesture, manner, patter = waiting.habits, waiting.gesture, waiting.manner, waiting.patter
            eyes = some_lot(rng, range(habits.craft.size + 1), 1)
            blind = BlindWait(habits, gesture, manner, patter, eyes)
            least = self.least_row(habits, gesture, manner, patter, eyes, 4)
            if least is None:
                self.assertTrue(blind.row is None or len(blind.row) > 4)
            else:
                self.assertEqual(blind.row, least)
            self.assertIs(bool(blind), blind.row is not None)
            self.verdict(blind, None if blind else blind.table)
            if not blind:
                self.assertEqual(list(blind), sorted(set(blind)))
                self.assertIsNone(judge_blind(habits, gesture, manner, patter, eyes, blind.table))
                for k, rows in changed_rows(blind.table):
                    self.assertEqual(judge_blind(habits, gesture, manner, patter, eyes, rows) == -1,
                                     blind.table[k] == eyes)
                    self.assertIsNotNone(judge_blind(habits, gesture, manner, patter, eyes, rows))
            told.add(blind.row and len(blind.row))
        self.assertLessEqual({None, (), 1, 2}, told)

    def least_row(self, habits, gesture, manner, patter, eyes, most):
        for number in range(most + 1):
            for row in itertools.product(sorted(patter), repeat=number):
                lot = eyes
                for name in row:
                    lot = habits.spread(name, lot)
                if all(habits.is_safe(gesture, manner, eye) for eye in lot):
                    return row

    def test_errors_in_their_order(self):
        for call in (BlindWait, lambda *args: judge_blind(*args, LOTS)):
            for name in NO_GESTURES:
                self.refused(NoGesture(name), call, self.habits, name, 9, (), ())
            for manner in ("keep", "open", None, True, ["load"]):
                self.refused(NoManner(manner), call, self.habits, "open", manner, (), ())
            for patter in BAD_PATTERS:
                self.refused(BadPatter(-1), call, self.habits, "open", "load", patter, ())
            for name in NO_GESTURES + ("reach",):
                self.refused(BadPatter(1), call, self.habits, "open", "load", ("reach", name, None), ())
            for eyes in BAD_EYE_LOTS:
                self.refused(BadEyes(eyes), call, self.habits, "open", "load", PATTER, eyes)


class TestJudged(Case):

    TABLE = ((0, 1), (0, 1, 2))

    def judge(self, table):
        return judge_blind(Habits(coin_craft(), RULES), "open", "load", ("pass",), (0, 1), table)

    def test_closed(self):
        self.judged(self.judge, self.TABLE, None)
        self.judged(self.judge, self.TABLE[::-1] + self.TABLE, None)
        self.assertIsNone(judge_blind(Habits(coin_craft(), RULES), "open", "load", ["pass"], [0, 1],
                                      as_lists(self.TABLE)))

    def test_rows_left_out(self):
        self.judged(self.judge, self.TABLE[1:], -1)
        self.judged(self.judge, self.TABLE[:1], 0)
        self.judged(self.judge, (), -1)

    def test_safe_rows(self):
        self.judged(self.judge, self.TABLE + ((0, 2),), 2)
        self.judged(self.judge, ((2,),) + self.TABLE, 0)
        judge = lambda table: judge_blind(Habits(coin_craft(), RULES), "open", "load", ("reach",), (0, 2), table)
        self.judged(judge, ((0, 2),), 0)

    def test_rows_never_reached(self):
        self.judged(self.judge, self.TABLE + ((3,),), None)
        self.judged(self.judge, self.TABLE + ((1,),), 2)
        self.judged(self.judge, self.TABLE + ((1, 3),), 2)

    def test_all_of_the_patter(self):
        judge = lambda table: judge_blind(Habits(coin_craft(), RULES), "open", "load", PATTER, (3,), table)
        self.judged(judge, ((3,), (0, 1), (0, 1, 2)), None)
        self.judged(judge, ((3,), (0, 1)), 1)
        self.judged(judge, ((3,), (0, 1, 2)), 0)

    def test_rows_of_another_form(self):
        for row in BAD_EYE_LOTS + NO_TUPLES + (((0,), (1,)), [0, [1]]):
            self.assertEqual(self.judge(self.TABLE + (row,)), 2)
            self.assertEqual(self.judge((row,) + self.TABLE), 0)
            self.assertEqual(self.judge((row,) + self.TABLE[1:]), -1)
