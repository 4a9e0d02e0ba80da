from shownempty.acts import Act
from shownempty.errors import BadWorld, TooMany, Unlike
from shownempty.explained import Explained
from shownempty.guests import Guest
from shownempty.plays import Play
from shownempty.wonders import Wonder, judge_wonder
from tests.acthelp import changed_rows, rich_plays, runs_behind, some_guest, some_plays, with_way_out
from tests.helpers import NO_INTEGERS, NO_STANDINGS, NO_TUPLES, Case, as_lists, coin_act, coin_craft, spoil
from tests.test_guests import explanations
from tests.test_standings import BAD_WORLDS, many_standings

END = ("end",)
COIN = ("a", "", "")
PASSED = ("", "a", "")
SURE, KEPT = ((PASSED, 0),), ((COIN, 1),)


def thoughts_along(act, guest, run, mind):
    """The thoughts of a run that begins with this mind."""
    thoughts = [run[0] + (mind,)]
    for standing, behind in zip(run, run[1:]):
        cue = act[standing[0]]
        if cue[0] == "do":
            sight = tuple([behind[1][place] for place in act.craft.places_of(cue[1])])
            mind = guest.behind(mind, (cue[1], sight))
        thoughts.append(behind + (mind,))
    return thoughts


def thoughts_behind(act, start, guest, most):
    """For each row of at most so many answers, the thoughts of the run behind it."""
    told = {}
    for row, run in runs_behind(act, start, most).items():
        told[row] = thoughts_along(act, guest, run, told[row[:-1]][-1][2] if row else guest.beginning)
    return told


def bad_minds(pair, other):
    """Things that are no mind of a guest whose most is 2; the two pairs are ascending."""
    world = pair[0]
    minds = NO_TUPLES + ((pair, pair), (other, pair), (pair, (world, 1 + pair[1])), (world,), ((world,),), (world, 0),
                         ((world, 3),), ((world, -1),), ((world, 0, 0),), ((world[:-1], 0),), ((list(world) + [""], 0),))
    return minds + tuple(((world, number),) for number in NO_INTEGERS) + tuple(((thing, 0),) for thing in NO_TUPLES)


class TestWonder(Case):

    def setUp(self):
        self.act = coin_act()
        self.layman = Guest.layman(coin_craft(), COIN)
        self.knowing = Guest(coin_craft(), (COIN,), ("keep",), 2)

    def test_a_wonder(self):
        wonder = Wonder(self.act, COIN, self.layman)
        self.assertIs(bool(wonder), True)
        self.assertIsNone(wonder.answers)
        self.assertIsNone(wonder.explanation)
        # The pass cannot be seen again: then he would have nothing left to think.
        self.verdict(wonder, ((0, COIN, ()), (0, COIN, SURE), (0, COIN, ((COIN, 0),)), (1, COIN, ()), (1, COIN, SURE),
                              (2, COIN, ()), (2, COIN, SURE), (3, COIN, ())))

    def test_no_wonder(self):
        wonder = Wonder(self.act, COIN, self.knowing)
        self.assertIs(bool(wonder), False)
        self.assertEqual((wonder.answers, wonder.explanation), ("0", (COIN, ("keep", ""))))
        self.assert_plain(wonder.explanation)
        self.verdict(wonder, None)

    def test_explained_only_behind_more_answers(self):
        act = Act(coin_craft(), (("ask", 1, 4), ("do", "pass", "keep"), ("do", "open", ""), END, ("ask", 1, 5), END))
        wonder = Wonder(act, COIN, self.layman)
        self.assertEqual((wonder.answers, wonder.explanation), ("11", (COIN, ())))
        # Two ways to be explained: the one behind fewer answers goes ahead.
        act = Act(coin_craft(), (("ask", 4, 1), ("do", "pass", ""), END, END, ("ask", 3, 3)))
        self.assertEqual(Wonder(act, COIN, self.layman).answers, "1")

    def test_an_end_at_once(self):
        wonder = Wonder(Act(coin_craft(), (END,)), COIN, self.layman)
        self.assertEqual((bool(wonder), wonder.answers, wonder.explanation), (False, "", (COIN, ())))

    def test_acts_that_never_end(self):
        for cues in ((("ask", 0, 0),), (("do", "pass", ""), ("do", "pass", ""), END)):
            self.assertIs(bool(Wonder(Act(coin_craft(), cues), COIN, self.knowing)), True)

    def test_the_start_need_not_be_held(self):
        wonder = Wonder(self.act, COIN, Guest.layman(coin_craft(), ("", "", "a")))
        self.assertIs(bool(wonder), True)
        self.assertEqual(wonder.table[0], (0, COIN, ()))

    def test_more_than_24_events(self):
        act = Act(coin_craft(), [("do", "open", "")] * 40 + [END])
        wonder = Wonder(act, COIN, self.layman)
        self.assertEqual((wonder.answers, wonder.explanation), ("", (COIN, ("",) * 40)))
        act = Act(coin_craft(), [("do", "pass", "keep")] + [("do", "open", "")] * 30 + [END])
        self.assertEqual(Wonder(act, COIN, self.knowing).explanation, (COIN, ("keep",) + ("",) * 30))

    def test_attributes(self):
        start = list(COIN)
        wonder = Wonder(guest=self.layman, start=start, act=self.act)
        spoil(start)
        self.assertIs(wonder.act, self.act)
        self.assertIs(wonder.guest, self.layman)
        self.assertEqual(wonder.start, COIN)

    def test_many_acts(self):
        told = set()
        for act, start, rng in rich_plays(150, 20):
            guest = some_guest(rng, act.craft, start)
            try:
                wonder = Wonder(act, start, guest)
            except TooMany:
                continue
            thoughts = thoughts_behind(act, start, guest, 5)
            bad = [row for row in thoughts if act[thoughts[row][-1][0]][0] == "end" and thoughts[row][-1][2]]
            if bad:
                self.assertEqual(wonder.answers, bad[0])
                self.explained(wonder, Play(act, start, bad[0]).events)
            else:
                self.assertTrue(wonder.answers is None or len(wonder.answers) > 5)
            self.verdict(wonder, wonder.table if wonder.answers is None else None)
            if wonder:
                every = {thought for row in thoughts.values() for thought in row}
                self.assertLessEqual(every, set(wonder))
                self.assertEqual(list(wonder), sorted(set(wonder)))
                self.assertIsNone(judge_wonder(act, start, guest, wonder.table))
            told.add((wonder.answers and len(wonder.answers)))
        self.assertLessEqual({None, 1, 2}, told)

    def explained(self, wonder, events):
        """The first of the explanations of the events is told."""
        if len(events) <= 12:
            found = [one for one, _ in explanations(wonder.guest, events)]
            first = min(found, key=lambda one: (len([manner for manner in one[1] if manner]), one))
            self.assertEqual(wonder.explanation, first)
            self.assertEqual(wonder.explanation, Explained(wonder.guest, events).first)

    def test_600_and_601(self):
        act, start = many_standings(8)
        guest = Guest.layman(act.craft, start)
        wonder = Wonder(with_way_out(act), start, guest)
        self.assertEqual((wonder.answers, wonder.explanation), ("1", (start, ())))
        act, start = many_standings(9)
        self.refused(TooMany("thought"), Wonder, with_way_out(act), start, guest)
        act, start = many_standings(10)
        self.assertEqual(len(Wonder(act, start, guest)), 600)
        self.refused(TooMany("thought"), Wonder, *many_standings(11), guest)

    def test_errors_in_their_order(self):
        act, start = many_standings(11)
        other = Guest.layman(coin_craft().without("load"), COIN)
        for call in (Wonder, lambda *args: judge_wonder(*args, ())):
            for world in BAD_WORLDS:
                self.refused(BadWorld(world), call, self.act, world, other)
            self.refused(Unlike("craft"), call, self.act, COIN, other)
            self.refused(Unlike("craft"), call, act, start, other)


class TestJudged(Case):

    def setUp(self):
        self.guest = Guest(coin_craft(), (COIN,), ("load",), 2)
        self.table = Wonder(coin_act(), COIN, self.guest).table

    def judge(self, table):
        return judge_wonder(coin_act(), COIN, self.guest, table)

    def test_right(self):
        self.assertEqual(len(self.table), 8)
        self.judged(self.judge, self.table, None)
        self.judged(self.judge, self.table[::-1] + self.table, None)
        self.assertIsNone(judge_wonder(coin_act(), list(COIN), self.guest, as_lists(self.table)))

    def test_rows_left_out(self):
        for k, rows in changed_rows(self.table):
            result = self.judge(rows)
            if self.table[k] == (0, COIN, ((COIN, 0),)):
                self.judged(self.judge, rows, -1)
            else:
                needing = [at for at, row in enumerate(rows) if self.leads_to(row, self.table[k])]
                self.judged(self.judge, rows, needing[0])
            self.assertIsNotNone(result)

    def leads_to(self, row, thought):
        """Whether the thought is directly behind the row."""
        for run in ([row[:2], follower] for follower in coin_act().followers(row[:2])):
            if thoughts_along(coin_act(), self.guest, run, row[2])[-1] == thought:
                return True
        return False

    def test_the_first_one_is_lacking(self):
        self.judged(self.judge, (), -1)
        self.judged(self.judge, ((0, PASSED, ((COIN, 0),)),), -1)
        # The first thought has the mind behind nothing.
        self.judged(self.judge, ((0, COIN, ()), (1, COIN, ()), (2, COIN, ()), (3, COIN, ())), -1)

    def test_ends_at_which_the_mind_is_not_empty(self):
        self.judged(self.judge, self.table + ((3, COIN, ((COIN, 0),)),), 8)
        self.judged(self.judge, self.table + ((3, PASSED, ((("", "", "zz"), 2),)),), 8)
        self.judged(self.judge, self.table + ((3, PASSED, ()),), None)

    def test_minds_go_on(self):
        # Behind the opening of the empty hand the coin cannot be there.
        self.judged(self.judge, self.table + ((2, COIN, ((COIN, 1),)), (3, COIN, ())), 8)
        rows = ((2, PASSED, ((COIN, 1),)), (3, PASSED, ()))
        self.judged(self.judge, self.table + rows, None)
        self.judged(self.judge, self.table + ((1, COIN, ((COIN, 1),)), (2, COIN, ((COIN, 1),))), 8)

    def test_stuck_rows(self):
        act = Act(coin_craft(), (("do", "pass", ""), END))
        judge = lambda table: judge_wonder(act, PASSED, Guest.layman(coin_craft(), COIN), table)
        self.judged(judge, ((0, PASSED, ((COIN, 0),)),), None)
        self.judged(judge, ((0, PASSED, ((COIN, 0),)), (0, COIN, ((COIN, 0),))), 1)
        self.judged(judge, ((0, PASSED, ((COIN, 0),)), (1, COIN, ((COIN, 0),))), 1)

    def test_rows_of_another_form(self):
        rows = [thing + (((COIN, 0),),) for thing in NO_STANDINGS if isinstance(thing, tuple)]
        rows.extend([(0, COIN, mind) for mind in bad_minds((PASSED, 0), (COIN, 0))])
        for row in rows + [(0, COIN), ((0, COIN), ()), (0, COIN, (), ())] + list(NO_STANDINGS):
            self.assertEqual(self.judge(self.table + (row,)), 8)
            self.assertEqual(self.judge((row,) + self.table), 0)
            self.assertEqual(self.judge((row,) + self.table[:2] + self.table[3:]), -1)

    def test_each_row_left_out_is_noticed(self):
        for act, start, rng in some_plays(200, 21):
            guest = some_guest(rng, act.craft, start)
            table = Wonder(act, start, guest).table
            for k, rows in changed_rows(table or ()):
                self.assertEqual(judge_wonder(act, start, guest, rows) == -1, table[k] == (0, start, guest.beginning))
                self.assertIsNotNone(judge_wonder(act, start, guest, rows))

    def test_more_thoughts_than_a_verdict_can_have(self):
        act, start = many_standings(11)
        guest = Guest.layman(act.craft, start)
        self.assertEqual(judge_wonder(act, start, guest, [(k, start, ((start, 0),)) for k in range(30)]), 29)
