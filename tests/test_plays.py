import itertools

from shownempty.acts import Act
from shownempty.craft import Craft
from shownempty.errors import BadAnswer, BadWorld, NoEvent
from shownempty.plays import Play, show_of
from tests.helpers import NO_INTEGERS, NO_STRINGS, NO_TUPLES, Case, EqualToAll, coin_act, coin_craft

END = ("end",)
COIN = ("a", "", "")
PASSED = ("pass", ())
EMPTY = ("open", ("",))
BAD_WORLDS = NO_TUPLES + (("", ""), ("",) * 4, ["ba", "", ""], (True, "", ""), ("aaaaa", "aaaa", ""), (None, "", ""))


def endless_act():
    """It asks again and again, and shows the right hand behind each yes."""
    return Act(coin_craft(), (("ask", 0, 1), ("do", "open", ""), ("ask", 0, 1)))


class TestMade(Case):

    def test_attributes(self):
        act = coin_act()
        play = Play(act, COIN, "10")
        self.assertIs(play.act, act)
        self.assertEqual((play.start, play.answers), (COIN, "10"))
        self.assertEqual(Play(act, COIN).answers, "")
        self.assertEqual(Play(answers="10", start=COIN, act=act), play)

    def test_lists_are_kept_as_tuples(self):
        start = list(COIN)
        play = Play(coin_act(), start, "0")
        start.clear()
        self.assertEqual(play.start, COIN)
        self.assert_plain((play.start, play.last, play.events))
        self.assert_plain(Play(Act(coin_craft(), (END,)), list(COIN)).last)

    def test_bad_worlds(self):
        for start in BAD_WORLDS:
            self.refused(BadWorld(start), Play, coin_act(), start, None)

    def test_no_strings(self):
        for answers in NO_STRINGS:
            self.refused(BadAnswer(-1), Play, coin_act(), COIN, answers)

    def test_200_and_201_answers(self):
        self.assertEqual(len(Play(endless_act(), COIN, "0" * 200)), 200)
        self.refused(BadAnswer(-1), Play, endless_act(), COIN, "0" * 201)
        self.refused(BadAnswer(-1), Play, endless_act(), COIN, "x" + "0" * 200)

    def test_no_answers(self):
        for answer in ("2", "a", " ", "-", "x"):
            self.refused(BadAnswer(0), Play, endless_act(), COIN, answer)
            self.refused(BadAnswer(2), Play, endless_act(), COIN, "01" + answer + answer)
            self.refused(BadAnswer(199), Play, endless_act(), COIN, "1" * 199 + answer)

    def test_answers_that_are_not_asked_for(self):
        self.refused(BadAnswer(1), Play, coin_act(), COIN, "00")
        self.refused(BadAnswer(1), Play, coin_act(), COIN, "0x")
        self.refused(BadAnswer(3), Play, coin_act(), COIN, "11011")
        self.refused(BadAnswer(0), Play, Act(coin_craft(), (END,)), COIN, "0")

    def test_answers_at_a_stuck_standing(self):
        act = Act(coin_craft(), (("do", "pass", ""), ("ask", 2, 0), END))
        self.assertEqual(Play(act, COIN, "1").rest, "stuck")
        self.refused(BadAnswer(1), Play, act, COIN, "10")


class TestPlay(Case):

    def test_the_example_of_the_document(self):
        play = Play(coin_act(), COIN, "110")
        events = (PASSED, "1", PASSED, "1", PASSED, "0", EMPTY)
        self.assertEqual(play.events, events)
        self.assertEqual((play.rest, play.shown, play.last), ("end", (events, "end"), (3, COIN)))
        self.assertEqual((play.manners, play.price), (("keep", "keep", "keep", ""), 6))

    def test_without_answers(self):
        play = Play(coin_act(), COIN)
        self.assertEqual((play.shown, play.last), (((PASSED,), "ask"), (1, COIN)))
        self.assertEqual((play.manners, play.price), (("keep",), 2))

    def test_an_act_that_only_ends(self):
        play = Play(Act(coin_craft(), (END,)), COIN)
        self.assertEqual((play.shown, play.last, play.manners, play.price), (((), "end"), (0, COIN), (), 0))
        self.assertEqual((len(play), list(play)), (0, []))

    def test_a_stuck_stroke_is_no_event(self):
        play = Play(Act(coin_craft(), (("do", "pass", ""), ("do", "open", "load"), END)), COIN)
        self.assertEqual(play.shown, ((PASSED,), "stuck"))
        self.assertEqual((play.last, play.manners, play.price), ((1, ("", "a", "")), ("",), 0))

    def test_glances_and_gos_are_no_events(self):
        act = Act(coin_craft(), (("glance", 2, "a", 3), ("do", "reach", ""), ("go", 4), ("do", "open", "load"), END))
        self.assertEqual(Play(act, ("", "", "a")).shown, ((("open", ("a",)),), "end"))
        self.assertEqual(Play(act, ("", "", "a")).price, 5)
        self.assertEqual(Play(act, COIN).shown, ((("reach", ("a",)),), "end"))
        self.assertEqual(Play(act, COIN).last, (4, COIN))

    def test_the_answers_pick_the_cue(self):
        act = Act(coin_craft(), (("ask", 1, 2), END, ("do", "reach", ""), END))
        self.assertEqual(Play(act, COIN, "0").last, (1, COIN))
        self.assertEqual(Play(act, COIN, "1").last, (3, COIN))

    def test_sights_of_several_places(self):
        craft = Craft(3, (("turn", (("~", 0, 2),), (0, 1, 2)),))
        play = Play(Act(craft, (("do", "turn", ""), ("ask", 2, 0), END)), ("a", "", "bc"), "10")
        turned = ("turn", ("bc", "", "a"))
        back = ("turn", ("a", "", "bc"))
        self.assertEqual(play.events, (turned, "1", back, "0"))

    def test_events_by_number(self):
        play = Play(coin_act(), COIN, "10")
        events = (PASSED, "1", PASSED, "0", EMPTY)
        self.assertEqual((len(play), tuple(play)), (5, events))
        for k, event in enumerate(events):
            self.assertEqual(play[k], event)

    def test_no_event(self):
        play = Play(coin_act(), COIN, "10")
        for number in NO_INTEGERS + (-1, 5, 10 ** 39, slice(0, 1)):
            self.refused(NoEvent(number), lambda: play[number])
        self.refused(NoEvent(0), lambda: Play(Act(coin_craft(), (END,)), COIN)[0])

    def test_equal(self):
        play = Play(coin_act(), COIN, "10")
        self.assertIs(play == Play(coin_act(), list(COIN), "10"), True)
        self.assertIs(play != Play(coin_act(), COIN, "10"), False)
        joined = coin_act() + Act(coin_craft(), (END,))
        for other in (Play(coin_act(), COIN, "1"), Play(coin_act(), ("a", "a", ""), "10"), Play(joined, COIN, "10")):
            self.assertIs(play == other, False)

    def test_equal_with_other_kinds(self):
        play = Play(coin_act(), COIN)
        for thing in (None, 0, "", (), play.events, play.act, EqualToAll()):
            self.assertIs(play == thing, False)


class TestFurtherAnswers(Case):

    def test_added(self):
        play = Play(coin_act(), COIN, "1")
        self.assertEqual(play + "10", Play(coin_act(), COIN, "110"))
        self.assertEqual((play + "10").events, Play(coin_act(), COIN, "110").events)
        self.assertEqual(play + "", play)
        self.assertEqual(play.answers, "1")

    def test_bad_answers_are_told_by_what_is_added(self):
        play = Play(coin_act(), COIN, "11")
        self.refused(BadAnswer(0), lambda: play + "x")
        self.refused(BadAnswer(1), lambda: play + "1x")
        self.refused(BadAnswer(1), lambda: play + "01")
        self.refused(BadAnswer(0), lambda: play + "0" + "1")

    def test_no_strings(self):
        play = Play(coin_act(), COIN, "1")
        for thing in NO_STRINGS + (play,):
            self.refused(BadAnswer(-1), lambda: play + thing)

    def test_200_and_201_together(self):
        play = Play(endless_act(), COIN, "0" * 150)
        self.assertEqual(len((play + "0" * 50).answers), 200)
        self.refused(BadAnswer(-1), lambda: play + "0" * 51)
        self.refused(BadAnswer(-1), lambda: play + "x" * 51)
        self.refused(BadAnswer(0), lambda: play + "x" * 50)


class TestShowOf(Case):

    def test_all_answers_are_asked_for(self):
        for answers in ("", "0", "1", "10", "110"):
            self.assertEqual(show_of(coin_act(), COIN, answers), Play(coin_act(), COIN, answers).shown)

    def test_those_behind_the_first_that_is_not_asked_for(self):
        for answers in ("".join(row) for row in itertools.product("01", repeat=4)):
            used = answers[:answers.index("0") + 1] if "0" in answers else answers
            self.assertEqual(show_of(coin_act(), COIN, answers), Play(coin_act(), COIN, used).shown)
        self.assertEqual(show_of(Act(coin_craft(), (END,)), COIN, "01"), ((), "end"))

    def test_a_stuck_act(self):
        act = Act(coin_craft(), (("do", "pass", ""), ("ask", 2, 0), END))
        self.assertEqual(show_of(act, COIN, "100"), ((PASSED, "1"), "stuck"))

    def test_lists(self):
        self.assert_plain(show_of(coin_act(), list(COIN), "10"))

    def test_bad_worlds(self):
        for start in BAD_WORLDS:
            self.refused(BadWorld(start), show_of, coin_act(), start, None)

    def test_no_strings(self):
        for answers in NO_STRINGS:
            self.refused(BadAnswer(-1), show_of, coin_act(), COIN, answers)

    def test_bad_characters_also_where_no_answer_is_asked_for(self):
        for character in ("2", "a", " "):
            self.refused(BadAnswer(0), show_of, coin_act(), COIN, character)
            self.refused(BadAnswer(2), show_of, coin_act(), COIN, "00" + character)

    def test_200_and_201_answers(self):
        self.assertEqual(show_of(coin_act(), COIN, "0" * 200), show_of(coin_act(), COIN, "0"))
        self.assertEqual(show_of(endless_act(), COIN, "0" * 200), (("0",) * 200, "ask"))
        self.refused(BadAnswer(-1), show_of, coin_act(), COIN, "0" * 201)
        self.refused(BadAnswer(-1), show_of, coin_act(), COIN, "x" * 201)
