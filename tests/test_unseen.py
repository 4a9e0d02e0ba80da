from shownempty.acts import Act
from shownempty.craft import Craft
from shownempty.errors import BadEyes, BadWorld, TooMany, Unlike
from shownempty.habits import Habits
from shownempty.plays import Play
from shownempty.unseen import Unseen, judge_unseen
from tests.acthelp import changed_rows, some_habits, some_lot, some_plays
from tests.helpers import NO_INTEGERS, NO_STANDINGS, Case, as_lists, coin_act, coin_craft, spoil
from tests.test_habits import BAD_EYE_LOTS, PASSING
from tests.test_standings import BAD_WORLDS, many_standings

END = ("end",)
KEEP = ("do", "pass", "keep")
LOAD = ("do", "open", "load")
COIN = ("a", "", "")
BOTH = ("a", "", "a")
# Under the pass all eyes go to the hand 1, but one at the pocket may stay.
RULES = (("pass", ((1,), (1,), (1, 2), (3,))),)
LOOKS = ((0, COIN, 0), (0, COIN, 1), (0, COIN, 2), (1, COIN, 1), (1, COIN, 2), (2, COIN, 1), (2, COIN, 2),
         (3, COIN, 1), (3, COIN, 2))


def many_looks(ahead, manner=""):
    """An act, a start and habits with 1,470 looks and so many more for an eye at 0.

    The last cue ahead scatters the eye. From 0 the sleight beneath the first nod is seen.
    """
    gestures = (("nod", (), ()), ("scatter", (), ()), ("left", (("a", 0, 1),), ()), ("right", (("b", 0, 1),), ()))
    craft = Craft(2, gestures, (("slip", "nod", (), 1, (0,)),))
    ask = ahead + 15
    cues = [("do", "nod", "")] * (ahead - 1) + [("do", "scatter", "")] + [("do", "nod", "")] * 15
    cues[0] = ("do", "nod", manner)
    cues.extend([("ask", ask + 1, ask + 3), ("do", "left", ""), ("ask", ahead, ahead)])
    cues.extend([("do", "right", ""), ("ask", ahead, ahead)])
    return Act(craft, cues), ("aaaabbbb", ""), Habits(craft, (("scatter", ((0, 1, 2),) * 3),))


def stories_of(act, start, habits, eyes, most):
    """All stories of at most so many entries, each with the looks to which it leads, and whether it sees its stroke."""
    stories = []
    todo = [((eye,), (0, start), eye, False) for eye in eyes]
    while todo:
        story, standing, eye, seen = todo.pop(0)
        run = [standing]
        while act[run[-1][0]][0] in ("go", "glance"):
            run.append(act.followers(run[-1])[0])
        stories.append((story, [standing + (eye,) for standing in run], seen))
        if len(story) < most:
            todo.extend(further(act, habits, story, run[-1], eye))
    return stories


def further(act, habits, story, standing, eye):
    """The stories with one entry more."""
    cue, followers = act[standing[0]], act.followers(standing)
    if cue[0] == "ask":
        return [(story + (answer,), followers[int(answer)], eye, False) for answer in "01"]
    if cue[0] == "do" and followers:
        spots = act.craft.spots_of(*cue[1:])
        return [(story + (goal,), followers[0], goal, goal in spots) for goal in habits.behind(cue[1], eye)]
    return []


class TestUnseen(Case):

    def setUp(self):
        self.act = coin_act()
        self.habits = Habits(coin_craft(), RULES)

    def test_unseen(self):
        unseen = Unseen(self.act, COIN, self.habits, (0, 2))
        self.assertIs(bool(unseen), True)
        self.assertIsNone(unseen.story)
        self.verdict(unseen, LOOKS)

    def test_seen(self):
        unseen = Unseen(self.act, COIN, Habits(coin_craft(), ()), (0, 2))
        self.assertIs(bool(unseen), False)
        self.assertEqual(unseen.story, (0, 0))
        self.assert_plain(unseen.story)
        self.verdict(unseen, None)
        self.assertIs(bool(Unseen(self.act, COIN, Habits(coin_craft(), ()), (1, 2, 3))), True)

    def test_an_eye_goes_ahead_of_the_deed(self):
        # The eye at 2 can go to 1, where the load is seen, under this very stroke.
        habits = Habits(coin_craft(), (("open", ((0,), (2,), (1, 2), (0,))),))
        act = Act(coin_craft(), (LOAD, END))
        self.assertEqual(Unseen(act, BOTH, habits, (0, 1, 2, 3)).story, (2, 1))
        # Eyes that were at the spots have gone away.
        self.assertIs(bool(Unseen(act, BOTH, habits, (0, 1, 3))), True)

    def test_honest_strokes_are_never_seen(self):
        act = Act(coin_craft(), (("do", "pass", ""), ("do", "open", ""), END))
        self.assertIs(bool(Unseen(act, COIN, Habits(coin_craft(), ()), (0, 1, 2, 3))), True)

    def test_a_stroke_that_cannot_be_done_is_not_seen(self):
        act = Act(coin_craft(), (LOAD, END))
        unseen = Unseen(act, COIN, Habits(coin_craft(), (("open", ((1,),) * 4),)), (0, 1))
        self.verdict(unseen, ((0, COIN, 0), (0, COIN, 1)))
        self.assertEqual(Unseen(act, BOTH, unseen.habits, (0, 1)).story, (0, 1))

    def test_the_least_story(self):
        # The story with fewer entries goes ahead, then the lesser one.
        act = Act(coin_craft(), (("ask", 1, 2), ("do", "reach", ""), KEEP, END))
        self.assertEqual(Unseen(act, COIN, Habits(coin_craft(), ()), (0, 1)).story, (0, "1", 0))
        habits = Habits(coin_craft(), (("reach", ((0, 1, 2), (0, 1), (0, 2), (0,))),))
        act = Act(coin_craft(), (("do", "reach", ""), ("do", "reach", ""), KEEP, END))
        self.assertEqual(Unseen(act, COIN, habits, (1, 2)).story, (1, 0, 0, 0))
        self.assertEqual(Unseen(act, COIN, habits, (2, 3)).story, (2, 0, 0, 0))

    def test_looks_behind_a_go_and_a_glance(self):
        act = Act(coin_craft(), (("glance", 0, "a", 2), ("do", "open", "load"), ("go", 4), END, END))
        self.verdict(Unseen(act, COIN, Habits(coin_craft(), ()), (1,)), ((0, COIN, 1), (2, COIN, 1), (4, COIN, 1)))

    def test_attributes(self):
        start, eyes = list(COIN), [0, 2]
        unseen = Unseen(eyes=eyes, habits=self.habits, start=start, act=self.act)
        spoil(start)
        spoil(eyes)
        self.assertIs(unseen.act, self.act)
        self.assertIs(unseen.habits, self.habits)
        self.assertEqual((unseen.start, unseen.eyes), (COIN, (0, 2)))

    def test_1500_and_1501(self):
        unseen = Unseen(*many_looks(30), (0,))
        self.assertEqual((len(unseen), unseen.story), (1500, None))
        self.assertEqual(Unseen(*many_looks(30, "slip"), (0,)).story, (0, 0))
        self.refused(TooMany("look"), Unseen, *many_looks(31), (0,))
        # The whole list is counted, although a stroke is seen at once.
        self.refused(TooMany("look"), Unseen, *many_looks(31, "slip"), (0,))

    def test_errors_in_their_order(self):
        other = Habits(coin_craft().without("load"), ())
        act, start, habits = many_looks(31)
        for call in (Unseen, lambda *args: judge_unseen(*args, LOOKS)):
            for world in BAD_WORLDS:
                self.refused(BadWorld(world), call, self.act, world, other, ())
            self.refused(Unlike("craft"), call, self.act, COIN, other, ())
            for lot in BAD_EYE_LOTS:
                self.refused(BadEyes(lot), call, self.act, COIN, self.habits, lot)
            self.refused(BadEyes((3,)), call, act, start, habits, (3,))

    def test_habits_of_an_equal_craft(self):
        self.assertIsNot(self.habits.craft, self.act.craft)
        self.assertIs(bool(Unseen(self.act, COIN, self.habits, [0])), True)

    def test_many_acts(self):
        told = set()
        for act, start, rng in some_plays(600):
            habits = some_habits(rng, act.craft)
            eyes = some_lot(rng, range(act.craft.size + 1), 1)
            unseen = Unseen(act, start, habits, eyes)
            stories = stories_of(act, start, habits, eyes, 5)
            seen = [story for story, _, is_seen in stories if is_seen]
            if seen:
                self.assertEqual(unseen.story, min(seen, key=lambda story: (len(story), story)))
            else:
                self.assertTrue(unseen.story is None or len(unseen.story) > 5)
            self.assertIs(bool(unseen), unseen.story is None)
            self.verdict(unseen, unseen.table if unseen else None)
            if unseen:
                self.assertLessEqual({look for _, looks, _ in stories for look in looks}, set(unseen))
                self.assertEqual(list(unseen), sorted(set(unseen)))
                self.assertIsNone(judge_unseen(act, start, habits, eyes, unseen.table))
                if len(unseen) < 6:
                    self.assertEqual(len({look for _, looks, _ in stories for look in looks}), len(unseen))
            told.add(unseen.story and len(unseen.story))
        self.assertLessEqual({None, 2, 3, 4}, told)

    def test_stories_agree_with_plays(self):
        for act, start, rng in some_plays(200, 1):
            habits = Habits(act.craft, ())
            story = Unseen(act, start, habits, tuple(range(act.craft.size + 1))).story
            if story:
                play = Play(act, start, "".join([entry for entry in story if isinstance(entry, str)]))
                self.assertLessEqual(len(story) - 1, len(play))
                kinds = [isinstance(event, str) for event in play][:len(story) - 1]
                self.assertEqual([isinstance(entry, str) for entry in story[1:]], kinds)


class TestJudged(Case):

    def setUp(self):
        self.habits = Habits(coin_craft(), RULES)

    def judge(self, table):
        return judge_unseen(coin_act(), COIN, self.habits, (0, 2), table)

    def test_right(self):
        self.judged(self.judge, LOOKS, None)
        self.judged(self.judge, LOOKS[::-1] + LOOKS, None)
        self.assertIsNone(judge_unseen(coin_act(), list(COIN), self.habits, [0, 2], as_lists(LOOKS)))

    def test_rows_left_out(self):
        for k, rows in changed_rows(LOOKS):
            self.judged(self.judge, rows, (-1, 2, -1, 0, 2, 3, 4, 5, 6)[k])

    def test_each_first_look_is_needed(self):
        self.judged(self.judge, (), -1)
        self.judged(self.judge, ((0, ("", "a", ""), 0),) + LOOKS[1:], -1)
        self.assertEqual(judge_unseen(coin_act(), COIN, self.habits, (0, 1, 3), LOOKS), -1)
        self.assertIsNone(judge_unseen(coin_act(), COIN, self.habits, (2,), LOOKS))

    def test_seen_strokes(self):
        # An eye at the hand 0 would stay there under the pass, and see that it keeps the coin.
        habits = Habits(coin_craft(), (("pass", ((0, 1), (1,), (1, 2), (3,))),))
        self.judged(lambda table: judge_unseen(coin_act(), COIN, habits, (0, 2), table), LOOKS, 0)
        self.judged(lambda table: judge_unseen(coin_act(), COIN, habits, (0, 2), table), LOOKS + ((1, COIN, 0),), 0)
        self.judged(lambda table: judge_unseen(coin_act(), COIN, habits, (2,), table), LOOKS[1:], None)

    def test_all_places_to_which_an_eye_can_go(self):
        habits = Habits(coin_craft(), (PASSING,))
        table = [(k, COIN, eye) for k in range(4) for eye in (1, 2, 3)]
        self.judged(lambda rows: judge_unseen(coin_act(), COIN, habits, (1, 2), rows), table, None)
        for k, rows in changed_rows(table):
            self.assertEqual(judge_unseen(coin_act(), COIN, habits, (1, 2), rows),
                             (-1, -1, 4, 0, 1, 1, 3, 4, 5, 6, 7, 8)[k])

    def test_stuck_rows_and_rows_never_reached(self):
        act = Act(coin_craft(), (LOAD, END))
        for eye in (0, 1, 2, 3):
            self.judged(lambda table: judge_unseen(act, COIN, self.habits, (0,), table),
                        ((0, COIN, 0), (0, COIN, eye), (0, ("", "b", ""), eye)), None)
        self.judged(lambda table: judge_unseen(act, COIN, self.habits, (0,), table), ((0, COIN, 0), (0, BOTH, 1)), 1)
        self.judged(self.judge, LOOKS + ((1, COIN, 0),), 9)
        self.judged(self.judge, LOOKS + ((3, COIN, 0),), None)

    def test_rows_of_another_form(self):
        rows = [thing + (0,) for thing in NO_STANDINGS if isinstance(thing, tuple)]
        rows.extend([(0, COIN, eye) for eye in NO_INTEGERS + (-1, 4)])
        for row in rows + [(0, COIN), ((0, COIN), 0), (0, COIN, 0, 0)] + list(NO_STANDINGS):
            self.assertEqual(self.judge(LOOKS + (row,)), 9)
            self.assertEqual(self.judge((row,) + LOOKS), 0)
            self.assertEqual(self.judge((row,) + LOOKS[1:]), -1)

    def test_each_row_left_out_is_noticed(self):
        for act, start, rng in some_plays(150, 2):
            habits, eyes = some_habits(rng, act.craft), some_lot(rng, range(act.craft.size + 1), 1)
            unseen = Unseen(act, start, habits, eyes)
            for k, rows in changed_rows(unseen.table or ()):
                look = unseen.table[k]
                self.assertEqual(judge_unseen(act, start, habits, eyes, rows) == -1,
                                 look[:2] == (0, start) and look[2] in eyes)
                self.assertIsNotNone(judge_unseen(act, start, habits, eyes, rows))

    def test_more_looks_than_a_verdict_can_have(self):
        act, start, habits = many_looks(31)
        self.assertEqual(judge_unseen(act, start, habits, (0,), [(k, start, 0) for k in range(31)]), 30)
