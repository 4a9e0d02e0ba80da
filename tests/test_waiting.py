import itertools
import random

from shownempty.craft import Craft
from shownempty.errors import BadEyes, BadMany, BadPatter, NoGesture, NoManner
from shownempty.habits import Habits
from shownempty.waiting import Waiting, judge_waiting
from tests.acthelp import changed_rows
from tests.helpers import NO_INTEGERS, NO_TUPLES, Case, as_lists, coin_craft, spoil
from tests.test_habits import NO_GESTURES

# The load is seen from the hand 1 and from the face. By reaching an eye comes from the face to a hand, by the pass
# from the hand 1 to 0 or to the pocket; an opening leads all to the hand 1.
RULES = (("reach", ((0,), (1,), (2,), (0, 1))), ("pass", ((1,), (0, 2), (2,), (3,))), ("open", ((0,), (1,), (2,), (3,))))
PATTER = ("pass", "reach")
TABLE = (((0,), 0), ((1,), 1), ((2,), 0), ((3,), 2))
BAD_PATTERS = NO_TUPLES + ((), ("pass",) * 9, list("abcdefghi"))


def value_as_told(waiting, values, eyes):
    """The value of the eyes by the values of those that can come, as the document tells it."""
    habits = waiting.habits
    if all(habits.is_safe(waiting.gesture, waiting.manner, eye) for eye in eyes):
        return 0
    worst = []
    for name in waiting.patter:
        come = come_behind(habits, name, eyes)
        if all(values[row] != -1 for row in come):
            worst.append(max(values[row] for row in come))
    return 1 + min(worst) if worst else -1


def come_behind(habits, name, eyes):
    rows = itertools.product(*[habits.behind(name, eye) for eye in eyes])
    return sorted({tuple(sorted(row)) for row in rows})


def within(waiting, eyes, number):
    """Whether the eyes can surely be brought to safe places within so many gestures of the patter."""
    habits = waiting.habits
    if all(habits.is_safe(waiting.gesture, waiting.manner, eye) for eye in eyes):
        return True
    return number > 0 and any(all(within(waiting, row, number - 1) for row in come_behind(habits, name, eyes))
                              for name in waiting.patter)


def some_waits(number, seed, watchers=(1, 1, 2, 3)):
    """Waits for a sleight that is seen at most places, by habits that mostly lead an eye to one place."""
    rng = random.Random(seed)
    for _ in range(number):
        size = rng.choice((2, 3))
        craft = Craft(size, [(name, (), ()) for name in ("pass", "wave", "open")],
                      (("slip", "open", (), 1, tuple(sorted(rng.sample(range(size + 1), rng.randint(1, size))))),))
        rules = [(name, [sorted(rng.sample(range(size + 1), rng.choice((1, 1, 1, 2)))) for _ in range(size + 1)])
                 for name in ("pass", "wave")]
        patter = rng.sample(("pass", "wave", "open"), rng.randint(1, 3))
        manner = rng.choice(("slip",) * 9 + ("",))
        yield Waiting(Habits(craft, rules), "open", manner, patter, rng.choice(watchers))


class TestWaiting(Case):

    def setUp(self):
        self.habits = Habits(coin_craft(), RULES)
        self.waiting = Waiting(self.habits, "open", "load", PATTER)

    def test_one_watcher(self):
        self.assertEqual(self.waiting.table, TABLE)
        self.assertEqual((len(self.waiting), list(self.waiting)), (4, list(TABLE)))
        self.assertEqual([self.waiting.value((eye,)) for eye in range(4)], [0, 1, 0, 2])
        self.assertEqual([self.waiting.plan((eye,)) for eye in range(4)], [None, "pass", None, "reach"])
        self.assertEqual(self.waiting.trap, ())
        self.assert_plain(self.waiting.table)

    def test_worst_eyes(self):
        self.assertEqual([self.waiting.worst((eye,), "pass") for eye in range(4)], [(1,), (0,), (2,), (3,)])
        self.assertEqual([self.waiting.worst([eye], "reach") for eye in range(4)], [(0,), (1,), (2,), (1,)])

    def test_two_watchers(self):
        waiting = Waiting(self.habits, "open", "load", PATTER, 2)
        self.assertEqual(waiting.table, (((0, 0), 0), ((0, 1), -1), ((0, 2), 0), ((0, 3), -1), ((1, 1), 1), ((1, 2), 1),
                                         ((1, 3), -1), ((2, 2), 0), ((2, 3), 2), ((3, 3), -1)))
        self.assertEqual(waiting.trap, ((0, 1), (0, 3), (1, 3), (3, 3)))
        # Both counts as the greatest what has no value.
        self.assertEqual(waiting.worst((3, 3), "reach"), (0, 1))
        self.assertEqual(waiting.worst((0, 1), "pass"), (0, 1))
        self.assertEqual(waiting.worst((1, 1), "pass"), (0, 0))
        self.assertEqual([waiting.plan(eyes) for eyes in ((3, 3), (2, 3), (0, 0), [1, 1])],
                         [None, "reach", None, "pass"])

    def test_three_watchers(self):
        waiting = Waiting(self.habits, "open", "load", PATTER, 3)
        self.assertEqual(len(waiting), 20)
        self.assertEqual([waiting.value(eyes) for eyes in ((0, 0, 2), (1, 1, 2), (2, 2, 3), (0, 1, 2))], [0, 1, 2, -1])
        self.assertEqual(list(waiting), sorted(waiting.table))

    def test_the_first_gesture_of_the_patter_is_planned(self):
        rules = tuple((name, ((0,),) * 4) for name in ("reach", "pass"))
        for patter in (("reach", "pass"), ("pass", "reach")):
            waiting = Waiting(Habits(coin_craft(), rules), "open", "load", patter)
            self.assertEqual([waiting.plan((eye,)) for eye in range(4)], [None, patter[0], None, patter[0]])

    def test_all_safe_at_once(self):
        waiting = Waiting(self.habits, "open", "", ("pass",), 2)
        self.assertEqual({value for _, value in waiting}, {0})
        self.assertEqual((waiting.trap, waiting.plan((1, 3)), waiting.worst((1, 3), "pass")), ((), None, (0, 3)))

    def test_none_is_ever_safe(self):
        waiting = Waiting(Habits(coin_craft(), (("open", ((1,),) * 4),)), "open", "load", ("pass", "open", "reach"))
        self.assertEqual(waiting.trap, ((0,), (1,), (2,), (3,)))
        self.assertEqual([waiting.plan((eye,)) for eye in range(4)], [None] * 4)

    def test_safe_means_behind_the_gesture_itself(self):
        # Under the opening the eye at 0 goes to 1, where the load is seen, and the one at 1 goes away.
        waiting = Waiting(Habits(coin_craft(), (("open", ((1,), (0,), (2,), (2,))),)), "open", "load", ("pass",))
        self.assertEqual(waiting.table, (((0,), -1), ((1,), 0), ((2,), 0), ((3,), 0)))

    def test_attributes(self):
        patter = list(PATTER)
        waiting = Waiting(watchers=2, patter=patter, manner="load", gesture="open", habits=self.habits)
        spoil(patter)
        self.assertIs(waiting.habits, self.habits)
        self.assertEqual((waiting.gesture, waiting.manner, waiting.patter, waiting.watchers),
                         ("open", "load", PATTER, 2))

    def test_1_to_8_names_and_9(self):
        craft = Craft(2, [(letter, (), ()) for letter in "abcdefgh"], (("slip", "a", (), 1, (0,)),))
        habits = Habits(craft, ((("h", ((1,), (1,), (2,)))),))
        self.assertEqual(Waiting(habits, "a", "slip", list("abcdefgh")).plan((0,)), "h")
        self.assertEqual(Waiting(habits, "a", "slip", list("abcdefg")).plan((0,)), None)
        self.refused(BadPatter(-1), Waiting, habits, "a", "slip", list("abcdefghh"))
        self.refused(BadPatter(-1), Waiting, habits, "a", "slip", ())

    def test_many(self):
        told = set()
        for waiting in some_waits(400, 7):
            values = dict(waiting)
            self.assertEqual([eyes for eyes, _ in waiting], list(itertools.combinations_with_replacement(
                range(waiting.habits.craft.size + 1), waiting.watchers)))
            for eyes, value in waiting:
                self.assertEqual(value, value_as_told(waiting, values, eyes))
                self.assertEqual(waiting.value(eyes), value)
                self.assertEqual([within(waiting, eyes, number) for number in range(4)],
                                 [0 <= value <= number for number in range(4)])
                self.planned(waiting, values, eyes)
                told.add((waiting.watchers, min(value, 2)))
            self.assertEqual(waiting.trap, tuple([eyes for eyes, value in waiting if value == -1]))
            self.assertIsNone(self.judge_own(waiting, waiting.table))
        self.assertEqual(len(told), 12)

    def judge_own(self, waiting, table):
        return judge_waiting(waiting.habits, waiting.gesture, waiting.manner, waiting.patter, waiting.watchers, table)

    def planned(self, waiting, values, eyes):
        """The plan and the worst eyes are those that the document tells."""
        plan = None
        for name in waiting.patter:
            come = come_behind(waiting.habits, name, eyes)
            worst = -1 if any(values[row] == -1 for row in come) else max(values[row] for row in come)
            self.assertEqual(waiting.worst(eyes, name), [row for row in come if values[row] == worst][0])
            if plan is None and values[eyes] > 0 and worst == values[eyes] - 1:
                plan = name
        self.assertEqual(waiting.plan(eyes), plan)

    def test_each_other_value_is_noticed(self):
        for waiting in some_waits(60, 1, (1, 2)):
            for k, rows in changed_rows(waiting.table):
                self.assertEqual(self.judge_own(waiting, rows), -1)
                eyes, value = waiting.table[k]
                for other in {-1, 0, 1, 2, 3} - {value}:
                    table = waiting.table[:k] + ((eyes, other),) + waiting.table[k + 1:]
                    values = dict(table)
                    wrong = [at for at, row in enumerate(table) if row[1] != value_as_told(waiting, values, row[0])]
                    self.assertEqual(self.judge_own(waiting, table), wrong[0] if wrong else None)

    def test_errors_in_their_order(self):
        judge = lambda *args: judge_waiting(*args, TABLE)
        for call in (Waiting, judge):
            for name in NO_GESTURES:
                self.refused(NoGesture(name), call, self.habits, name, 9, (), 9)
            for manner in ("keep", "open", None, True, ["load"]):
                self.refused(NoManner(manner), call, self.habits, "open", manner, (), 9)
            for patter in BAD_PATTERS:
                self.refused(BadPatter(-1), call, self.habits, "open", "load", patter, 9)
            for name in NO_GESTURES + ("pass",):
                self.refused(BadPatter(1), call, self.habits, "open", "load", ("pass", name, None), 9)
                self.refused(BadPatter(1), call, self.habits, "open", "load", ["pass", name], 9)
            for watchers in NO_INTEGERS + (0, 4, -1):
                self.refused(BadMany(watchers), call, self.habits, "open", "load", PATTER, watchers)

    def test_errors_of_its_methods(self):
        for watchers, good, bads in ((1, (0,), ((0, 0), (4,), (-1,), (True,), (None,), 0)),
                                     (2, (1, 3), ((3, 1), (1,), (1, 2, 3), (0, 4), (False, 1), ((0, 1),)))):
            waiting = Waiting(self.habits, "open", "load", PATTER, watchers)
            for eyes in bads + NO_TUPLES + ((), [0] * 4):
                self.refused(BadEyes(eyes), waiting.value, eyes)
                self.refused(BadEyes(eyes), waiting.plan, eyes)
                self.refused(BadEyes(eyes), waiting.worst, eyes, "none")
            for name in NO_GESTURES + ("open",):
                self.refused(NoGesture(name), waiting.worst, good, name)


class TestJudged(Case):

    def judge(self, table):
        return judge_waiting(Habits(coin_craft(), RULES), "open", "load", PATTER, 1, table)

    def test_right(self):
        self.judged(self.judge, TABLE, None)
        self.judged(self.judge, TABLE[::-1] + TABLE, None)
        self.assertIsNone(judge_waiting(Habits(coin_craft(), RULES), "open", "load", list(PATTER), 1, as_lists(TABLE)))

    def test_rows_left_out(self):
        for _, rows in changed_rows(TABLE):
            self.judged(self.judge, rows, -1)
        self.judged(self.judge, (), -1)

    def test_wrong_rows(self):
        for k, values in ((0, (1, -1, 0, 2)), (0, (-1, 1, 0, 2)), (1, (0, 2, 0, 3)), (1, (0, 0, 0, 2)),
                          (1, (0, -1, 0, 2)), (1, (0, 1, 1, 2)), (2, (0, 2, 1, 3)), (3, (0, 1, 0, 1)), (3, (0, 1, 0, -1)),
                          (3, (0, 1, 0, 10 ** 39)), (0, (9, 9, 9, 9))):
            self.judged(self.judge, [((eye,), value) for eye, value in enumerate(values)], k)

    def test_values_that_hang_on_one_another(self):
        # Eyes that stay where they are would have no value; each number but -1 is wrong, and so is that of the others.
        habits = Habits(coin_craft(), ())
        for value, result in ((-1, None), (0, 1), (1, 1), (5, 1)):
            table = (((0,), 0), ((1,), value), ((2,), 0), ((3,), -1))
            self.judged(lambda rows: judge_waiting(habits, "open", "load", ("reach",), 1, rows), table, result)

    def test_a_gesture_behind_which_some_have_no_value_does_not_count(self):
        rules = (("reach", ((0,), (2, 3), (2,), (3,))), ("pass", ((0,), (1,), (2,), (0,))))
        habits = Habits(coin_craft(), rules)
        table = (((0,), 0), ((1,), -1), ((2,), 0), ((3,), -1))
        judge = lambda rows: judge_waiting(habits, "open", "load", ("reach",), 1, rows)
        self.judged(judge, table, None)
        judge = lambda rows: judge_waiting(habits, "open", "load", ("reach", "pass"), 1, rows)
        self.judged(judge, table, 3)
        self.judged(judge, (((0,), 0), ((1,), 2), ((2,), 0), ((3,), 1)), None)

    def test_the_first_of_several_rows_counts(self):
        self.judged(self.judge, TABLE + (((1,), 5),), 4)
        self.judged(self.judge, (((1,), 5),) + TABLE, 0)
        self.judged(self.judge, (((1,), -2),) + TABLE, 0)

    def test_rows_of_another_form(self):
        rows = [((0,), value) for value in NO_INTEGERS + (-2,)] + [(eyes, 0) for eyes in NO_TUPLES]
        rows.extend([((4,), 0), ((0, 0), 0), ((), 0), (0, 0), ((True,), 0), ((0,),), ((0,), 0, 0), ()])
        for row in rows + list(NO_TUPLES):
            self.assertEqual(self.judge(TABLE + (row,)), 4)
            self.assertEqual(self.judge((row,) + TABLE), 0)
            self.assertEqual(self.judge((row,) + TABLE[1:]), -1)

    def test_two_watchers(self):
        habits = Habits(coin_craft(), RULES)
        waiting = Waiting(habits, "open", "load", PATTER, 2)
        judge = lambda rows: judge_waiting(habits, "open", "load", PATTER, 2, rows)
        self.judged(judge, waiting.table, None)
        self.judged(judge, TABLE, -1)
        self.judged(judge, waiting.table + (((1, 0), -1),), 10)
