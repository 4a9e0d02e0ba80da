import itertools

from shownempty.acts import Act
from shownempty.craft import Craft
from shownempty.errors import BadAnswer, BadMost, BadSlips, BadWorld, Lost, NoManner, NoPosition, TooMany, Unlike
from shownempty.making import Making
from shownempty.plays import Play
from shownempty.plots import Plot
from shownempty.risks import Risks
from shownempty.slipgames import SlipGame, judge_slips
from shownempty.written import written
from tests.acthelp import changed_rows, rows_of
from tests.helpers import NO_INTEGERS, NO_STANDINGS, NO_STRINGS, NO_TUPLES, Case, as_lists, coin_craft, partly_lists, spoil
from tests.sliphelp import behind_answers, cases_of, lost_positions, manners_at, many_positions, outs_of
from tests.sliphelp import positions_from, rich_games, sight_in, some_games, value_from

HERE = ("a", "")
THERE = ("", "a")
PALM = Craft(2, (("look", (), (1,)),), (("palm", "look", (("a", 0, 1),), 3, ()),))
# The thing shall be seen at one of three looks.
LOOKS = (("show", "look", ((("a",), 3), (("",), 1))), ("show", "look", ((("a",), 3), (("",), 2))),
         ("show", "look", ((("a",), 3),)), ("end", (None, "a")))
# With one slip: what is not palmed at once must be palmed at the second look, since a slip at the third one is the loss.
ONCE = (((0, HERE, 0), 6), ((1, HERE, 0), 6), ((1, HERE, 1), 3), ((2, HERE, 0), -2), ((2, HERE, 1), 3),
        ((3, THERE, 0), 0), ((3, THERE, 1), 0))
PRICES = tuple(row for row in ONCE if row[1] >= 0)
NO_POSITIONS = NO_TUPLES + tuple(thing for thing in NO_STANDINGS if isinstance(thing, (tuple, list))) + (
    (0, HERE), (0, HERE, 0, 0), (0, HERE, 2), (0, HERE, -1), (4, HERE, 0), (0, ("a",), 0), ((0, HERE), 0), (0, "a", 0))
NO_POSITIONS += tuple((0, HERE, made) for made in NO_INTEGERS) + tuple((number, HERE, 0) for number in NO_INTEGERS)


def outs_only(*ends):
    """A game with one look, all of whose outs are fit; they lead, one each, to what these words tell."""
    craft = Craft(2, (("look", (), ()), ("turn", (("z", 0, 1),), ())),
                  (("one", "turn", (), 1, ()), ("four", "turn", (), 4, ())))
    starts = {"lost": 1, "free": 2, "one": 3, "dear": 5}
    cues = [("show", "look", [((), starts[end]) for end in ends]), ("end", ("z", None)), ("end", (None, None)),
            ("show", "turn", (((), 4),)), ("end", (None, None)), ("show", "turn", (((), 6),)), ("ask", 5, 5)]
    return SlipGame(Plot(craft, cues), Risks(craft, ()), HERE, 0)


class TestSlipGame(Case):

    def setUp(self):
        self.plot = Plot(PALM, LOOKS)
        self.risks = Risks(PALM, (("palm", ()),))

    def game(self, most):
        return SlipGame(self.plot, self.risks, HERE, most)

    def test_values(self):
        game = self.game(1)
        self.assertIs(bool(game), True)
        self.assertEqual((game.least, game.table), (6, ONCE))
        self.assertEqual((len(game), list(game)), (7, list(ONCE)))
        self.assert_plain(game.table)

    def test_the_more_slips_the_dearer(self):
        self.assertEqual([self.game(most).least for most in (0, 1, 2, 3, None)], [3, 6, 9, -2, -2])
        self.assertEqual([bool(self.game(most)) for most in (0, 1, 2, 3, None)], [True, True, True, False, False])

    def test_any_number_is_not_counted(self):
        self.assertEqual([position for position, _ in self.game(None)],
                         [(0, HERE, 0), (1, HERE, 0), (2, HERE, 0), (3, THERE, 0)])
        self.assertEqual([value for _, value in self.game(None)], [-2, -2, -2, 0])

    def test_picks(self):
        game = self.game(1)
        # The honest look and the palm reach the value; the honest one is the first manner.
        self.assertEqual([game.pick(position) for position, _ in ONCE], ["", "palm", "", None, "palm", None, None])
        self.assertEqual(game.pick([0, list(HERE), 0]), "")
        self.assertEqual(self.game(2).pick((0, HERE, 0)), "palm")
        self.assertEqual(self.game(0).pick((0, HERE, 0)), "")

    def test_outs(self):
        game = self.game(1)
        self.assertEqual([game.out((0, HERE, 0), *case) for case in (("",), ("palm",), ("palm", True), ("palm", False))],
                         [1, 0, 1, 0])
        self.assertEqual(game.out(position=[2, list(HERE), 0], manner="palm"), 0)
        # No out is fit for the empty hand.
        self.assertIsNone(game.out((2, HERE, 0), ""))
        self.assertIsNone(game.out((2, HERE, 0), "palm", slipped=True))

    def test_the_best_out(self):
        for ends, best in ((("lost", "dear", "one", "free"), 3), (("one", "one", "dear"), 0),
                           (("one", "free", "free"), 1),
                           (("lost", "dear", "one"), 2), (("dear", "free"), 1), (("lost", "dear", "dear"), 1),
                           (("dear", "lost"), 0), (("lost", "lost"), 0), (("free",), 0)):
            game = outs_only(*ends)
            self.assertEqual(game.out((0, HERE, 0), ""), best)
            values = {"lost": -2, "dear": -1, "one": 1, "free": 0}
            self.assertEqual(game.least, values[ends[best]])

    def test_no_manner(self):
        game = self.game(1)
        for manner in NO_STRINGS + ("look", "keep", "palms"):
            self.refused(NoManner(manner), game.out, (0, HERE, 0), manner)
        # The honest look never slips; at most one slip is made; at an end nothing is picked.
        self.refused(NoManner(""), game.out, (0, HERE, 0), "", True)
        self.refused(NoManner("palm"), game.out, (1, HERE, 1), "palm", True)
        self.assertEqual(game.out((1, HERE, 1), "palm"), 0)
        self.refused(NoManner("palm"), game.out, (3, THERE, 0), "palm")
        self.refused(NoManner(""), game.out, (3, THERE, 0), "")
        self.refused(NoManner("palm"), self.game(0).out, (0, HERE, 0), "palm", True)
        self.assertEqual(self.game(None).out((0, HERE, 0), "palm", True), 1)
        # A deed that cannot be done is no manner.
        game = SlipGame(self.plot, self.risks, ("", ""), 1)
        self.refused(NoManner("palm"), game.out, (0, ("", ""), 0), "palm")
        self.assertEqual(game.out((0, ("", ""), 0), ""), 1)
        plot = Plot(PALM, (("ask", 1, 1), ("end", (None, None))))
        self.refused(NoManner(""), SlipGame(plot, self.risks, HERE, 1).out, (0, HERE, 0), "")

    def test_a_slip_whose_deed_cannot_be_done(self):
        # The hand would take a b away, if one lay there.
        risks = Risks(PALM, (("palm", (("b", 1, 0),)),))
        game = SlipGame(self.plot, risks, HERE, None)
        self.assertEqual((game.least, len(game)), (3, 4))
        self.refused(NoManner("palm"), game.out, (0, HERE, 0), "palm", True)
        self.assertEqual(SlipGame(self.plot, risks, ("a", "b"), 3).least, -2)

    def test_a_deed_that_cannot_be_done_cannot_slip(self):
        # The fail could be done, but the sleight itself cannot be picked.
        risks = Risks(PALM, (("palm", (("b", 0, 1),)),))
        plot = Plot(PALM, (("show", "look", ((("b",), 1),)), ("end", (None, None))))
        game = SlipGame(plot, risks, ("b", ""), 3)
        self.assertEqual((game.least, game.table), (-2, (((0, ("b", ""), 0), -2),)))
        game = SlipGame(plot, risks, ("ab", ""), 3)
        self.assertEqual(game.table, (((0, ("ab", ""), 0), -2), ((1, ("a", "b"), 1), 0)))

    def test_a_fail_that_is_the_deed_of_its_sleight(self):
        risks = Risks(PALM, (("palm", (("a", 0, 1),)),))
        game = SlipGame(self.plot, risks, HERE, 1)
        self.assertEqual((game.least, game.pick((2, HERE, 0))), (3, "palm"))
        self.assertIn((3, THERE, 1), dict(game))
        self.assertEqual(game.out((2, HERE, 0), "palm", True), 0)
        self.assertEqual(SlipGame(self.plot, risks, HERE, None).least, 3)

    def test_no_bound(self):
        # The thing must be held again and again; a slip lets it go over, and it can be taken back once more.
        craft = Craft(2, (("pass", (("z", 0, 1),), ()), ("nod", (), ())),
                      (("hold", "pass", (), 2, ()), ("back", "nod", (("a", 1, 0),), 1, ())))
        plot = Plot(craft, (("show", "pass", (((), 1),)), ("show", "nod", (((), 2),)), ("ask", 0, 3),
                            ("end", ("a", ""))))
        risks = Risks(craft, (("hold", (("a", 0, 1),)),))
        for most, first in ((0, ""), (1, ""), (None, "")):
            game = SlipGame(plot, risks, HERE, most)
            self.assertEqual((bool(game), game.least), (True, -1))
            self.assertEqual((game.pick((0, HERE, 0)), game.pick((1, HERE, 0))), ("hold", first))
            self.assertEqual(game.out((0, HERE, 0), "hold"), 0)
        self.assertEqual(SlipGame(plot, risks, HERE, None).pick((1, THERE, 0)), "back")
        risks = Risks(craft, risks.fails + (("back", ()),))
        self.assertEqual([SlipGame(plot, risks, HERE, most).least for most in (0, 1, 2, None)], [-1, -1, -2, -2])

    def test_attributes(self):
        start = list(HERE)
        game = SlipGame(most=2, start=start, risks=self.risks, plot=self.plot)
        spoil(start)
        self.assertIs(game.plot, self.plot)
        self.assertIs(game.risks, self.risks)
        self.assertEqual((game.start, game.most), (HERE, 2))
        self.assertIsNone(self.game(None).most)

    def test_looked_up(self):
        game = self.game(1)
        for position, value in game:
            self.assertEqual(game[position], value)
            self.assertEqual(game[as_lists(position)], value)
        # A look that shows the thing leads to the end alone.
        for thing in NO_POSITIONS + ((1, THERE, 0), (0, HERE, 1), (3, HERE, 0), -1, slice(0, 1)):
            self.refused(NoPosition(thing), lambda: game[thing])
            self.refused(NoPosition(thing), game.pick, thing)
            self.refused(NoPosition(thing), game.out, thing, None)
        self.refused(NoPosition((1, HERE, 1)), lambda: self.game(None)[1, HERE, 1])
        self.refused(NoPosition((1, HERE, 1)), lambda: self.game(0)[1, HERE, 1])

    def test_errors_in_their_order(self):
        other = Risks(coin_craft(), ())
        for call in (SlipGame, lambda *args: judge_slips(*args, ())):
            self.refused(Unlike("craft"), call, self.plot, other, None, None)
            for start in NO_TUPLES + (("a", "", ""), ("a",), ["ba", ""], (True, ""), ("aaaaa", "aaaa"), (None, "")):
                self.refused(BadWorld(start), call, self.plot, self.risks, start, 4)
            for most in NO_INTEGERS[1:] + (-1, 4, 10 ** 39):
                self.refused(BadMost(most), call, self.plot, self.risks, HERE, most)
        plot, risks, start = many_positions(11, 25, ())
        self.refused(BadMost(4), SlipGame, plot, risks, start, 4)

    def test_1500_and_1501(self):
        game = SlipGame(*many_positions(11, 25, (), 1), 1)
        self.assertEqual((len(game), game.least), (1500, -2))
        self.refused(TooMany("position"), SlipGame, *many_positions(11, 25, ()), 1)
        self.assertEqual(len(SlipGame(*many_positions(11, 25, ()), 0)), 751)
        self.assertEqual(len(SlipGame(*many_positions(11, 25, ()), None)), 751)
        self.assertEqual(len(SlipGame(*many_positions(11, 25, None), 3)), 751)
        self.assertEqual(len(SlipGame(*many_positions(11, 15, ()), 2)), 1500)
        self.refused(TooMany("position"), SlipGame, *many_positions(11, 15, ()), 3)

    def test_many_games(self):
        told = set()
        for plot, risks, start, rng in some_games(500, 70):
            most = rng.choice((0, 1, 2, 3, None))
            game = SlipGame(plot, risks, start, most)
            self.assertEqual([position for position, _ in game], positions_from(plot, risks, start, most))
            known = {}
            for position, value in game:
                self.assertEqual(value, value_from(plot, risks, most, position, known))
                told.add(min(value, 2))
            self.assertEqual({position for position, value in game if value == -2},
                             lost_positions(plot, risks, start, most))
            self.assertEqual((game.least, bool(game)), (game[0, start, 0], game.least != -2))
        self.assertEqual(told, {-2, -1, 0, 1, 2})

    def test_many_picks_and_outs(self):
        for plot, risks, start, rng in rich_games(150, 71):
            most = rng.choice((1, 2, None))
            game = SlipGame(plot, risks, start, most)
            for position, value in game:
                if plot[position[0]][0] != "show":
                    self.assertIsNone(game.pick(position))
                    continue
                good = []
                for manner, price, cases in manners_at(plot, risks, most, position):
                    values = [self.case(game, position, manner, k, case) for k, case in enumerate(cases)]
                    if -2 not in values and (value == -1 or -1 not in values and price + max(values) == value):
                        good.append(manner)
                    if len(cases) == 1:
                        self.refused(NoManner(manner), game.out, position, manner, True)
                self.assertEqual(game.pick(position), good[0] if good and value != -2 else None)
                self.assertEqual(bool(good), value != -2)

    def case(self, game, position, manner, slipped, case):
        """The value that is reached in a case, by the out that is the first of the best ones."""
        outs = outs_of(game.plot, position[0], case)
        ranks = [((0, game[behind]) if game[behind] >= 0 else (-game[behind], 0), k, behind) for k, behind in outs]
        best = min(ranks, default=(None, None, None))
        self.assertEqual(game.out(position, manner, bool(slipped)), best[1])
        return -2 if best[2] is None else game[best[2]]

    def test_without_fails_or_slips_it_is_the_making(self):
        for plot, risks, start, rng in some_games(300, 72):
            making = Making(plot, start)
            table = tuple([((number, world, 0), value) for (number, world), value in making])
            self.assertEqual(SlipGame(plot, risks, start, 0).table, table)
            for most in (2, None):
                self.assertEqual(SlipGame(plot, Risks(plot.craft, ()), start, most).table, table)


class TestPerformance(Case):

    def setUp(self):
        self.game = SlipGame(Plot(PALM, LOOKS), Risks(PALM, (("palm", ()),)), HERE, 2)

    def test_performances(self):
        empty, full = ("look", ("",)), ("look", ("a",))
        told = self.game.performance("")
        self.assertEqual(told, ((full,), "end", 3))
        self.assert_plain(told)
        self.assertEqual(self.game.performance("", slips=(0,)), ((empty, full), "end", 6))
        self.assertEqual(self.game.performance("", slips=[0, 1]), ((empty, empty, full), "end", 9))
        # No stroke has this number, or the hand cannot slip any more.
        self.assertEqual(self.game.performance("", slips=(1, 2, 10 ** 39)), ((full,), "end", 3))
        self.assertEqual(self.game.performance("", slips=(0, 1, 2, 3)), ((empty, empty, full), "end", 9))
        # With at most one slip the first look is honest, and so the hand cannot slip there.
        game = SlipGame(self.game.plot, self.game.risks, HERE, 1)
        self.assertEqual(game.performance("", slips=(0,)), ((empty, full), "end", 3))
        self.assertEqual(game.performance("", slips=(1,)), ((empty, empty, full), "end", 6))

    def test_answers(self):
        craft = coin_craft()
        plot = Plot(craft, (("show", "pass", (((), 1),)), ("ask", 0, 2), ("show", "open", ((("",), 3),)),
                            ("end", (None, None, None))))
        game = SlipGame(plot, Risks(craft, ()), ("a", "", ""), None)
        passing, empty = ("pass", ()), ("open", ("",))
        self.assertEqual(game.performance(""), ((passing,), "ask", 2))
        self.assertEqual(game.performance("00"), ((passing, "0", passing, "0", passing), "ask", 6))
        self.assertEqual(game.performance("01", slips=(0,)), ((passing, "0", passing, "1", empty), "end", 4))
        self.assertEqual(game.performance(answers="0" * 200)[1:], ("ask", 402))
        for answers, k in (("10", 1), ("x", 0), ("0x0", 1), ("01x", 2), ("012", 2), ("0000000000 ", 10)):
            self.refused(BadAnswer(k), game.performance, answers)
        for answers in NO_STRINGS + ("0" * 201, ["0"], ("0",)):
            self.refused(BadAnswer(-1), game.performance, answers, slips=None)

    def test_strokes_are_numbered_through_all_answers(self):
        # Each time the thing is palmed, or not, and then taken back.
        craft = Craft(2, (("look", (("z", 0, 1),), (1,)), ("back", (("*", 1, 0),), ())),
                      (("palm", "look", (("a", 0, 1),), 1, ()),))
        plot = Plot(craft, (("show", "look", (((None,), 1),)), ("show", "back", (((), 2),)), ("ask", 0, 3),
                            ("end", HERE)))
        game = SlipGame(plot, Risks(craft, (("palm", ()),)), HERE, None)
        full, empty, back = ("look", ("a",)), ("look", ("",)), ("back", ())
        for slips, first, second, third in (((), full, full, full), ((0,), empty, full, full), ((2,), full, empty, full),
                                            ((4,), full, full, empty), ((1, 3, 5), full, full, full),
                                            ((0, 1, 2, 4), empty, empty, empty)):
            self.assertEqual(game.performance("001", slips=slips),
                             ((first, back, "0", second, back, "0", third, back, "1"), "end", 3))
        # With at most one slip only the first one that can be made is made.
        game = SlipGame(plot, game.risks, HERE, 1)
        self.assertEqual(game.performance("0", slips=(1, 2, 4)), ((full, back, "0", empty, back), "ask", 2))
        self.assertEqual(game.performance("00", slips=(2, 4))[0][-2:], (full, back))

    def test_bad_slips(self):
        bad = [(number,) for number in NO_INTEGERS + (-1,)] + [(0, 0), (1, 0), [0, 2, 1], (0, True), ((0,),)]
        for slips in list(NO_TUPLES) + bad:
            self.refused(BadSlips(slips), self.game.performance, "x", slips=slips)
        lost = SlipGame(self.game.plot, self.game.risks, HERE, 3)
        self.refused(BadSlips(None), lost.performance, "x", slips=None)

    def test_lost(self):
        lost = SlipGame(self.game.plot, self.game.risks, list(HERE), 3)
        raised = self.refused(Lost(HERE), lost.performance, "x", slips=(0,))
        self.assertIs(raised.world, lost.start)
        self.refused(BadAnswer(-1), lost.performance, None)

    def test_many_performances(self):
        told = set()
        for plot, risks, start, rng in rich_games(200, 73):
            most = rng.choice((0, 1, 2, 3, None))
            game = SlipGame(plot, risks, start, most)
            for answers in rows_of(3):
                for slips in [lot for many in range(4) for lot in itertools.combinations(range(4), many)]:
                    told.add(self.one(game, answers, slips))
        self.assertEqual(told, {"lost", "bad", "ask", "end"})

    def one(self, game, answers, slips):
        """The performance goes by the picks, and it is a play of the act of its strokes."""
        if not game:
            self.refused(Lost(game.start), game.performance, answers, slips=slips)
            return "lost"
        plot, position, price, cues, events = game.plot, (0, game.start, 0), 0, [], []
        left = answers
        while plot[position[0]][0] == "show" or left:
            if plot[position[0]][0] != "show":
                if plot[position[0]][0] == "end":
                    self.refused(BadAnswer(len(answers) - len(left)), game.performance, answers, slips=slips)
                    return "bad"
                position = behind_answers(plot, position)[int(left[0])]
                cues.append(("ask", len(cues) + 1, len(cues) + 1))
                events.append(left[0])
                left = left[1:]
                continue
            manner, gesture = game.pick(position), plot[position[0]][1]
            cases = cases_of(plot, game.risks, game.most, position, manner)
            slipped = len([event for event in events if not isinstance(event, str)]) in slips and len(cases) > 1
            case = cases[slipped]
            price += plot.craft.price_of(gesture, manner)
            cues.append(("do", gesture, "fail" + manner if slipped else manner))
            events.append((gesture, sight_in(plot, position[0], case[0])))
            position = dict(outs_of(plot, position[0], case))[game.out(position, manner, slipped)]
        rest = plot[position[0]][0]
        self.assertEqual(game.performance(answers, slips=slips), (tuple(events), rest, price))
        self.assertTrue(game.least == -1 or price <= game.least)
        act = Act(self.with_fails(plot.craft, game.risks), cues + [("ask", 0, 0) if rest == "ask" else ("end",)])
        play = Play(act, game.start, answers)
        self.assertEqual((play.shown, play.price, play.last[1]), ((tuple(events), rest), price, position[1]))
        return rest

    def with_fails(self, craft, risks):
        """The craft with each fail as a sleight of its own, at the price of its sleight."""
        fails = [("fail" + name, gesture, risks.fail_of(name), price, spots)
                 for name, gesture, _, price, spots in craft.sleights if risks.fail_of(name) is not None]
        return Craft(craft.size, craft.gestures, craft.sleights + tuple(fails))

    def test_without_slips_they_are_plays_of_the_written_act(self):
        number = 0
        for plot, risks, start, rng in rich_games(300, 74):
            for game in (SlipGame(plot, risks, start, 0), SlipGame(plot, Risks(plot.craft, ()), start, None)):
                if not game or len(game) > 20:
                    continue
                act = written(plot, start)
                for answers in rows_of(3):
                    try:
                        play = Play(act, start, answers)
                    except BadAnswer as error:
                        self.refused(BadAnswer(error.number), game.performance, answers)
                        continue
                    self.assertEqual(game.performance(answers, slips=(0, 1, 2)), (play.events, play.rest, play.price))
                    number += 1
        self.assertGreater(number, 500)


class TestJudged(Case):

    def setUp(self):
        self.plot = Plot(PALM, LOOKS)
        self.risks = Risks(PALM, (("palm", ()),))

    def judge(self, table):
        return judge_slips(self.plot, self.risks, HERE, 1, table)

    def test_right(self):
        self.judged(self.judge, PRICES, None)
        self.judged(self.judge, PRICES[::-1] + PRICES, None)
        self.assertIsNone(judge_slips(self.plot, self.risks, list(HERE), 1, partly_lists(PRICES)))
        self.judged(self.judge, [(position, price + 10 ** 39) for position, price in PRICES], None)
        # One manner is enough: by the palm at once the honest look is not needed.
        self.judged(self.judge, [row for row in PRICES if row[0] != (1, HERE, 0)], None)

    def test_rows_left_out(self):
        # At the first look there are two ways; at the second one both cases of the palm are needed.
        for k, rows in changed_rows(PRICES):
            self.judged(self.judge, rows, (-1, None, None, 1, 1, 3)[k])
        self.judged(self.judge, (PRICES[0],) + PRICES[3:], 0)

    def test_lesser_prices(self):
        for k, result in ((0, 0), (1, 1), (2, 2), (3, 3)):
            position, price = PRICES[k]
            self.judged(self.judge, PRICES[:k] + ((position, price - 1),) + PRICES[k + 1:], result)
        self.judged(self.judge, PRICES[:5] + (((3, THERE, 1), 1),), 3)
        self.judged(self.judge, PRICES[:4] + (((3, THERE, 0), 4),) + PRICES[5:], 1)

    def test_both_cases_are_needed(self):
        rows = PRICES + (((2, HERE, 0), 9),)
        self.judged(self.judge, rows, 6)
        none = Risks(PALM, ())
        self.judged(lambda table: judge_slips(self.plot, none, HERE, 1, table), rows, None)
        # A slip that cannot be done is no case.
        never = Risks(PALM, (("palm", (("b", 0, 1),)),))
        self.judged(lambda table: judge_slips(self.plot, never, HERE, None, table),
                    (((0, HERE, 0), 3), ((3, THERE, 0), 0)), None)

    def test_asks_and_ends(self):
        plot = Plot(PALM, (("ask", 1, 2), ("end", ("a", None)), ("end", ("", None))))
        judge = lambda table: judge_slips(plot, self.risks, HERE, 0, table)
        self.judged(judge, (((0, HERE, 0), 0), ((1, HERE, 0), 0)), 0)
        self.judged(judge, (((0, HERE, 0), 0), ((1, HERE, 0), 0), ((2, HERE, 0), 0)), 2)
        self.judged(judge, (((0, HERE, 0), 0), ((1, HERE, 0), 0), ((2, HERE, 0), 1), ((2, THERE, 0), 0)), 0)
        self.judged(judge, (((0, HERE, 0), 1), ((1, HERE, 0), 0), ((2, THERE, 0), 0)), 0)
        plot = Plot(PALM, (("ask", 1, 1), ("end", ("a", None))))
        self.judged(judge, (((0, HERE, 0), 0), ((1, HERE, 0), 7)), 0)
        self.judged(judge, (((0, HERE, 0), 7), ((1, HERE, 0), 7)), None)

    def test_the_first_of_several_rows_counts(self):
        self.judged(self.judge, PRICES + (((2, HERE, 1), 4),), None)
        self.judged(self.judge, (((2, HERE, 1), 4),) + PRICES, 2)
        self.judged(self.judge, (((2, HERE, 1), -4),) + PRICES, 0)

    def test_rows_never_reached(self):
        self.judged(self.judge, PRICES + (((2, THERE, 0), 0), ((3, THERE, 0), 0)), None)
        self.judged(self.judge, PRICES + (((2, ("", ""), 0), 9),), 6)
        self.judged(self.judge, PRICES + (((0, HERE, 1), 3),), None)
        self.judged(self.judge, PRICES + (((0, HERE, 1), 2),), 6)

    def test_rows_of_another_form(self):
        rows = [(thing, 0) for thing in NO_POSITIONS] + [((0, HERE, 0), number) for number in NO_INTEGERS + (-1,)]
        # At an end that fits all prices are right, whatever slips have been made.
        rows.extend([((3, THERE, made), 0) for made in NO_INTEGERS + (-1, 2)])
        rows.extend([((3, THERE, 0), number) for number in NO_INTEGERS + (-1,)])
        for row in rows + [(0, HERE, 0), ((0, HERE, 0),), ((0, HERE, 0), 6, 0)] + list(NO_POSITIONS):
            self.assertEqual(self.judge(PRICES + (row,)), 6)
            self.assertEqual(self.judge((row,) + PRICES), 0)
            self.assertEqual(self.judge((row,) + PRICES[1:]), -1)

    def test_how_often_it_slipped_lies_within_its_bounds(self):
        for most, made in ((None, 1), (0, 1), (1, 2), (3, 4)):
            rows = (((0, HERE, 0), 3), ((3, THERE, 0), 0), ((3, THERE, made), 0))
            self.assertEqual(judge_slips(self.plot, Risks(PALM, ()), HERE, most, rows), 2)
        rows = (((0, HERE, 0), 3), ((3, THERE, 0), 0), ((3, THERE, 3), 0))
        self.assertIsNone(judge_slips(self.plot, Risks(PALM, ()), HERE, 3, rows))

    def test_the_first_one_is_lacking(self):
        self.judged(self.judge, (), -1)
        self.judged(self.judge, (((0, HERE, 1), 9),) + PRICES[1:], -1)

    def test_many_games(self):
        told = set()
        for plot, risks, start, rng in some_games(400, 75):
            most = rng.choice((0, 1, 2, 3, None))
            game = SlipGame(plot, risks, start, most)
            table = tuple([row for row in game if row[1] >= 0])
            self.assertEqual(judge_slips(plot, risks, start, most, table), None if game.least >= 0 else -1)
            told.add(min(game.least, 1))
            for k, (position, price) in enumerate(table):
                if price > 0:
                    rows = table[:k] + ((position, price - 1),) + table[k + 1:]
                    self.assertIsNotNone(judge_slips(plot, risks, start, most, rows))
        self.assertEqual(told, {-2, -1, 0, 1})

    def test_more_positions_than_a_game_can_have(self):
        plot, risks, start = many_positions(11, 25, ())
        self.assertEqual(judge_slips(plot, risks, start, 1, [((k, start, 0), 0) for k in range(20)]), 19)
