from shownempty.acts import Act
from shownempty.craft import Craft
from shownempty.errors import BadMany, BadOut, BadPart, BadQuestion, NoStage, TooMany, Twice
from shownempty.forces import Force, ForceGame, judge_force
from shownempty.plays import Play
from tests.acthelp import changed_rows, rows_of
from tests.forcehelp import ONE_MORE, THOUSAND, first_of, readings_let, some_forces, stages_of, value_of, ways_of
from tests.helpers import NO_INTEGERS, NO_STRINGS, NO_TUPLES, Case, as_lists, partly_lists, spoil
from tests.test_craft import LETTERS

# Of four cards the first one shall be left: by halves, and by the other halves.
HALVES = ("half", ((0, 1), (2, 3)), "both")
OTHERS = ("other", ((0, 2), (1, 3)), "both")
CARDS = Force(4, ((0,),), (HALVES, OTHERS))
ALL = (0, 1, 2, 3)
TABLE = (((0,), (), 0), ((0, 1), (1,), 1), ((0, 1, 2, 3), (0, 1), 2), ((0, 2), (0,), 1), ((1,), (), -1), ((1, 3), (0,), -1),
         ((2,), (), -1), ((2, 3), (1,), -1), ((3,), (), -1))
NO_LOTS = NO_TUPLES + ((), (1, 0), (0, 0), (-1,), (4,), [2, 1]) + tuple((number,) for number in NO_INTEGERS)
NO_PARTS = [NO_TUPLES[k] for k in range(len(NO_TUPLES))] + [(), ((0,),), ((0,), (1,), (2,), (3,), ()), ((0, 1), (1, 2)),
                                                           ((0,), (0,)), ((0,), (1, 0)), ((0,), ())]
NO_QUESTIONS = [("name", parts, "keep") for parts in NO_PARTS]
NO_QUESTIONS.extend([(name, ((0,), (1,)), "keep") for name in NO_STRINGS + ("", "names" * 2, "Name", "n1")])
NO_QUESTIONS.extend([("name", ((0,), (1,)), word) for word in NO_STRINGS + ("", "Keep", "keeps", "none")])
NO_QUESTIONS.extend([("name", ((0,), part), "drop") for part in NO_LOTS])
NO_QUESTIONS.extend(list(NO_TUPLES) + [(), ("name", ((0,), (1,))), ("name", ((0,), (1,)), "keep", "keep")])


class TestForce(Case):

    def test_attributes(self):
        outs, questions = [[0], [2, 3]], as_lists((HALVES, OTHERS))
        force = Force(questions=questions, outs=outs, many=4)
        spoil(outs)
        spoil(questions)
        self.assertEqual((force.many, force.outs, force.questions), (4, ((0,), (2, 3)), (HALVES, OTHERS)))
        self.assertEqual(Force(4, [(0,)], partly_lists((HALVES,))).questions, (HALVES,))

    def test_equal(self):
        self.assertIs(CARDS == Force(4, [[0]], as_lists((HALVES, OTHERS))), True)
        for other in (Force(5, ((0,),), (HALVES, OTHERS)), Force(4, ((1,),), (HALVES, OTHERS)),
                      Force(4, ((0,),), (OTHERS, HALVES)), Force(4, ((0,), (0,)), (HALVES, OTHERS)), None, 4, (),
                      (4, ((0,),), (HALVES, OTHERS))):
            self.assertIs(CARDS == other, False)
            self.assertIs(CARDS != other, True)

    def test_2_and_8_and_9_things(self):
        for many in (2, 8):
            self.assertEqual(Force(many, ((many - 1,),), (("all", ((0,), (1,)), "keep"),)).many, many)
        for many in NO_INTEGERS + (-1, 0, 1, 9, 10 ** 39):
            self.refused(BadMany(many), Force, many, None, None)
        self.refused(BadOut(0), Force, 2, ((2,),), None)
        self.refused(BadQuestion(0), Force, 2, ((1,),), (("all", ((0,), (2,)), "keep"),))

    def test_bad_outs(self):
        for outs in NO_TUPLES + ((), []):
            self.refused(BadOut(-1), Force, 4, outs, None)
        for thing in NO_LOTS:
            self.refused(BadOut(1), Force, 4, ((0,), thing, None), None)
            self.refused(BadOut(1), Force, 4, [[0], thing], None)
        self.assertEqual(Force(4, ((0,),) * 20, (HALVES,)).outs, ((0,),) * 20)

    def test_bad_questions(self):
        for questions in NO_TUPLES + ((), [], tuple((letter,) + HALVES[1:] for letter in LETTERS[:7])):
            self.refused(BadQuestion(-1), Force, 4, ((0,),), questions)
        for thing in NO_QUESTIONS:
            self.refused(BadQuestion(1), Force, 4, ((0,),), (HALVES, thing, None))
            self.refused(BadQuestion(1), Force, 4, ((0,),), [list(HALVES), thing])
        self.assertEqual(len(Force(4, ((0,),), [(letter,) + HALVES[1:] for letter in LETTERS[:6]]).questions), 6)
        for many in (1, 2, 3, 4, 5):
            questions = (("parts", tuple((k,) for k in range(many)), "drop"),)
            if 2 <= many <= 4:
                self.assertEqual(Force(8, ((0,),), questions).questions, questions)
            else:
                self.refused(BadQuestion(0), Force, 8, ((0,),), questions)

    def test_twice(self):
        self.refused(Twice("half"), Force, 4, ((0,),), (HALVES, OTHERS, ("half", ((0,), (1,)), "keep"), OTHERS))
        self.refused(BadQuestion(2), Force, 4, ((0,),), (HALVES, HALVES, None))


class TestForceGame(Case):

    def setUp(self):
        self.game = ForceGame(CARDS)

    def test_values(self):
        self.assertIs(bool(self.game), True)
        self.assertEqual((self.game.least, self.game.table), (2, TABLE))
        self.assertEqual((len(self.game), list(self.game)), (len(TABLE), list(TABLE)))
        self.assert_plain(self.game.table)
        self.assertIs(self.game.force, CARDS)

    def test_no_value(self):
        # To keep what is named is not enough.
        game = ForceGame(Force(4, ((0,),), (HALVES[:2] + ("keep",), OTHERS)))
        self.assertEqual((bool(game), game.least), (False, -1))
        self.assertIsNone(game.plan(ALL, (0, 1)))

    def test_done_at_once(self):
        game = ForceGame(Force(4, ((1,), ALL), (HALVES, OTHERS)))
        self.assertEqual((bool(game), game.least, game.table), (True, 0, ((ALL, (0, 1), 0),)))
        self.assertIsNone(game.plan(ALL, (0, 1)))
        for number in (0, 1):
            self.refused(BadQuestion(number), game.reading, ALL, (0, 1), number, 0)

    def test_looked_up(self):
        for left, still, value in TABLE:
            self.assertEqual(self.game.value(left, still), value)
            self.assertEqual(self.game.value(list(left), list(still)), value)
        self.assertEqual(self.game.value(still=(0, 1), left=ALL), 2)
        for left in NO_LOTS + ((0, 1, 2), (0, 1)):
            self.refused(NoStage((left, (0, 1))), self.game.value, left, (0, 1))
            self.refused(NoStage((left, (0, 1))), self.game.plan, left, (0, 1))
            self.refused(NoStage((left, (0, 1))), self.game.reading, left, (0, 1), None, None)
        for still in NO_LOTS[:-len(NO_INTEGERS)] + ((2,), (0,), (0, 2)) + tuple((number,) for number in NO_INTEGERS):
            self.refused(NoStage((ALL, still)), self.game.value, ALL, still)
            self.refused(NoStage((ALL, still)), self.game.plan, ALL, still)
            self.refused(NoStage((ALL, still)), self.game.reading, ALL, still, None, None)
        for left, still in (((False,), ()), ((0, 1), (True,)), ((False, 2), [False])):
            self.refused(NoStage((left, still)), self.game.value, left, still)
        left, still = [0, 3], [1]
        raised = self.refused(NoStage((left, still)), self.game.value, left, still)
        self.assertIs(raised.stage[0], left)
        self.assertIs(type(raised.stage), tuple)

    def test_plans(self):
        self.assertEqual(self.game.plan(ALL, (0, 1)), 0)
        self.assertEqual(self.game.plan([0, 2], [0]), 0)
        self.assertEqual(self.game.plan((0, 1), (1,)), 1)
        self.assertIsNone(self.game.plan((0,), ()))
        self.assertIsNone(self.game.plan((1, 3), (0,)))
        # The first question by which the value is reached need not be the first one.
        force = Force(3, ((0,),), (("a", ((1,), (2,)), "drop"), ("b", ((0,), (1, 2)), "both"), ("c", ((0,), (1, 2)), "both")))
        self.assertEqual((ForceGame(force).least, ForceGame(force).plan((0, 1, 2), (0, 1, 2))), (1, 1))

    def test_readings(self):
        reading = self.game.reading
        self.assertEqual([reading(ALL, (0, 1), 0, part) for part in (0, 1)], ["keep", "drop"])
        self.assertEqual([reading(ALL, (0, 1), 1, part) for part in (0, 1)], ["keep", "drop"])
        self.assertEqual([reading([0, 2], [0], 0, part) for part in (0, 1)], ["keep", "drop"])
        # Where both are as good, or as bad, it is kept.
        self.assertEqual([reading((1, 3), (0,), 0, part) for part in (0, 1)], ["keep", "keep"])
        force = Force(4, ((0,), (1,)), (("a", ((0,), (1,)), "both"), ("b", ((0, 1), (2, 3)), "drop")))
        game = ForceGame(force)
        self.assertEqual([game.reading((0, 1), (0,), 0, part) for part in (0, 1)], ["keep", "keep"])
        self.assertEqual([game.reading(ALL, (0, 1), 1, part) for part in (0, 1)], ["drop", "drop"])
        # A less value is better than a greater one, also if it is that of dropping.
        game = ForceGame(Force(3, ((0,), (2,)), (("a", ((0, 1), (2,)), "both"), ("b", ((0,), (1,)), "both"))))
        self.assertEqual([game.reading((0, 1, 2), (0, 1), 0, part) for part in (0, 1)], ["drop", "keep"])

    def test_things_in_no_part(self):
        # They go when something else is kept, and stay when something is dropped.
        force = Force(4, ((0,), (2, 3)), (("a", ((0,), (1,)), "both"), ("b", ((0,), (2,)), "drop")))
        game = ForceGame(force)
        self.assertEqual([game.value(left, (1,)) for left in ((0,), (1,), (1, 2, 3), (0, 2, 3))], [0, -1, -1, -1])
        self.assertEqual([row[:2] for row in game], stages_of(force, readings_let(force)))
        self.assertEqual([row[0] for row in game if row[1] == (0,)], [(0, 1, 3), (1, 2, 3)])

    def test_a_question_that_cannot_be_asked(self):
        # Only one of its parts has a thing that is left.
        force = Force(4, ((0,),), (HALVES, ("left", ((0, 1), (2, 3)), "both")))
        game = ForceGame(force)
        self.assertEqual((game.least, game.value((0, 1), (1,))), (-1, -1))
        self.refused(BadQuestion(1), game.reading, (0, 1), (1,), 1, 0)

    def test_bad_questions_and_parts(self):
        reading = self.game.reading
        for number in NO_INTEGERS + (-1, 2, 10 ** 39):
            self.refused(BadQuestion(number), reading, ALL, (0, 1), number, None)
            self.refused(BadPart(number), reading, ALL, (0, 1), 1, number)
        # It is no longer open.
        self.refused(BadQuestion(0), reading, (0, 1), (1,), 0, None)
        # Nothing of the part is left.
        force = Force(4, ((0,),), (HALVES, ("each", ((0,), (1,), (2,), (3,)), "both")))
        game = ForceGame(force)
        self.assertEqual(game.reading((0, 1), (1,), 1, 1), "drop")
        for part in (2, 3):
            self.refused(BadPart(part), game.reading, (0, 1), (1,), 1, part)
        self.assertEqual(game.reading((2, 3), (1,), 1, 3), "keep")

    def test_1000_and_1001_stages(self):
        self.assertEqual(len(ForceGame(THOUSAND)), 1000)
        self.refused(TooMany("stage"), ForceGame, ONE_MORE)
        self.assertEqual(len(stages_of(ONE_MORE, readings_let(ONE_MORE))), 1001)
        # Where it is done at once there is one.
        self.assertEqual(len(ForceGame(Force(8, (tuple(range(8)),), ONE_MORE.questions))), 1)

    def test_many_forces(self):
        told = set()
        for force, _ in some_forces(300, 130):
            game, lets = ForceGame(force), readings_let(force)
            known = {}
            self.assertEqual(game.table, tuple(stage + (value_of(force, lets, stage, known),)
                                               for stage in stages_of(force, lets)))
            self.assertEqual((game.least, bool(game)), (known[first_of(force)], known[first_of(force)] != -1))
            told.add(game.least)
            for left, still, value in game:
                self.one(game, (left, still), value, ways_of(force, lets, (left, still)), known)
        self.assertLessEqual({-1, 0, 1, 2, 3}, told)

    def one(self, game, stage, value, ways, known):
        """The plan and the readings of a stage are the first ones that are good enough."""
        good = []
        far = 10 ** 6
        for number, parts in ways.items():
            least = {part: min(known[behind] % far for behind in readings.values()) for part, readings in parts.items()}
            if value > 0 and max(least.values()) == value - 1:
                good.append(number)
            for part, readings in parts.items():
                best = [reading for reading in ("keep", "drop") if reading in readings
                        and known[readings[reading]] % far == least[part]]
                self.assertEqual(game.reading(*stage, number, part), best[0])
        self.assertEqual(game.plan(*stage), good[0] if value > 0 else None)


class TestJudged(Case):

    def judge(self, table):
        return judge_force(CARDS, table)

    def test_right(self):
        self.judged(self.judge, TABLE, None)
        self.judged(self.judge, TABLE[::-1] + TABLE, None)
        self.assertIsNone(self.judge(partly_lists(TABLE)))

    def test_rows_left_out(self):
        # All stages behind are needed, also those that are of no use.
        for k, rows in changed_rows(TABLE):
            self.judged(self.judge, rows, (0, 1, -1, 2, 1, 2, 3, 2, 5)[k])

    def test_other_values(self):
        for k, (left, still, value) in enumerate(TABLE):
            for other in {-1, 0, value + 1, value + 2, 10 ** 39} - {value}:
                rows = TABLE[:k] + ((left, still, other),) + TABLE[k + 1:]
                self.assertIsNotNone(self.judge(rows))
        self.judged(self.judge, TABLE[:2] + ((ALL, (0, 1), 3),) + TABLE[3:], 2)
        self.judged(self.judge, TABLE[:2] + ((ALL, (0, 1), -1),) + TABLE[3:], 2)
        self.judged(self.judge, (((0,), (), 1),) + TABLE[1:], 0)

    def test_done_exactly_with_the_value_0(self):
        force = Force(4, (ALL,), (HALVES,))
        judge = lambda table: judge_force(force, table)
        # Where it is done nothing behind it is asked for.
        self.judged(judge, ((ALL, (0,), 0),), None)
        self.judged(judge, ((ALL, (0,), 1), ((0, 1), (), -1), ((2, 3), (), -1)), 0)
        self.judged(judge, ((ALL, (0,), 0), ((0, 1), (), 0)), 1)
        self.judged(judge, ((ALL, (0,), 0), (ALL, (), 0)), None)
        self.judged(judge, ((ALL, (0,), 0), (ALL, (), 0), ((0, 1), (0,), -1), ((0, 1), (), -1)), None)

    def test_rows_never_reached(self):
        self.judged(self.judge, TABLE + (((0, 1, 2), (), -1), ((0, 3), (), -1)), None)
        self.judged(self.judge, TABLE + (((0, 3), (0,), 1),), None)
        self.judged(self.judge, TABLE + (((0, 3), (0,), 2),), 9)
        self.judged(self.judge, TABLE + (((0, 1, 2), (0,), 9),), 9)

    def test_the_first_of_several_rows_counts(self):
        self.judged(self.judge, TABLE + (((0, 1), (1,), 2),), 9)
        self.judged(self.judge, (((0, 1), (1,), 2),) + TABLE, 0)
        rows = (((0,), (), -2),) + TABLE
        self.judged(self.judge, rows, 0)

    def test_values_that_are_wrong_themselves(self):
        # Each row is judged by what the others tell, whatever that is.
        force = Force(2, ((0,),), (("each", ((0,), (1,)), "both"),))
        judge = lambda table: judge_force(force, table)
        self.judged(judge, (((0, 1), (0,), 1), ((0,), (), 0), ((1,), (), -1)), None)
        self.judged(judge, (((0, 1), (0,), 6), ((0,), (), 5), ((1,), (), 7)), 1)
        self.judged(judge, (((0, 1), (0,), -1), ((0,), (), -1), ((1,), (), -1)), 1)
        self.judged(judge, (((0, 1), (0,), 8), ((1,), (), 7), ((0,), (), -1)), 1)

    def test_rows_of_another_form(self):
        stage = (ALL, (0, 1))
        rows = [(left, (0, 1), 2) for left in NO_LOTS] + [(ALL, still, 2) for still in NO_LOTS[:len(NO_TUPLES)]]
        rows.extend([(ALL, (2,), 2), (ALL, (1, 0), 2), (ALL, (0, 0), 2), (ALL, (True,), 2), (ALL, (-1,), 2)])
        rows.extend([stage + (value,) for value in NO_INTEGERS + (-2,)])
        # True and False are no integers, though these rows would be right with 1 and 0.
        rows.extend([((0, 1), (1,), True), ((0,), (), False), ((0, 1), (True,), 1), ((False, True), (1,), 1)])
        for row in rows + list(NO_TUPLES) + [(), stage, stage + (2, 2), (stage, 2)]:
            self.assertEqual(self.judge(TABLE + (row,)), 9)
            self.assertEqual(self.judge((row,) + TABLE), 0)
            self.assertEqual(self.judge((row,) + TABLE[:2] + TABLE[3:]), -1)

    def test_the_first_one_is_lacking(self):
        self.judged(self.judge, (), -1)
        self.judged(self.judge, ((ALL, (0,), 1),) + TABLE[3:], -1)

    def test_more_stages_than_a_game_can_have(self):
        lets, known = readings_let(ONE_MORE), {}
        table = [stage + (value_of(ONE_MORE, lets, stage, known),) for stage in stages_of(ONE_MORE, lets)]
        self.assertEqual(len(table), 1001)
        self.assertIsNone(judge_force(ONE_MORE, table))
        self.assertIsNotNone(judge_force(ONE_MORE, table[1:]))

    def test_many_forces(self):
        for force, rng in some_forces(60, 131):
            table = ForceGame(force).table
            self.assertIsNone(judge_force(force, table))
            for k, rows in changed_rows(table):
                self.assertEqual(judge_force(force, rows) == -1, table[k][:2] == first_of(force))
                self.assertIsNotNone(judge_force(force, rows))
                left, still, value = table[k]
                wrong = table[:k] + ((left, still, value + rng.choice((1, 2))),) + table[k + 1:]
                self.assertIsNotNone(judge_force(force, wrong))


class TestWritten(Case):

    def test_a_force_that_is_written_as_an_act_comes_to_one_of_its_outs(self):
        told = set()
        for force, _ in some_forces(200, 132):
            act = self.act_of(force) if ForceGame(force) else None
            if act is None:
                continue
            start = ("".join("abcde"[:force.many]), "")
            for row in rows_of(6):
                try:
                    play = Play(act, start, row)
                except ValueError:
                    continue
                if play.rest == "end":
                    left = tuple("abcde".index(letter) for letter in play.last[1][0])
                    self.assertIn(left, force.outs)
                    told.add(len(left))
                self.assertNotEqual(play.rest, "stuck")
        self.assertLessEqual({1, 2}, told)

    def act_of(self, force):
        """The act that asks by the plan which part is named, and takes the things away; None if it is too long."""
        game = ForceGame(force)
        craft = Craft(2, [("take" + letter, ((letter, 0, 1),), ()) for letter in "abcde"[:force.many]])
        cues = []
        if not self.write(game, first_of(force), cues) or len(cues) > 60:
            return None
        return Act(craft, cues)

    def write(self, game, stage, cues):
        """Adds the cues from a stage on; for three parts or four it is asked once or twice more."""
        number = game.plan(*stage)
        if number is None:
            cues.append(("end",))
            return True
        parts = list(ways_of(game.force, readings_let(game.force), stage)[number].items())
        if len(cues) > 60:
            return False
        for k, (part, readings) in enumerate(parts):
            asked = len(cues)
            if k < len(parts) - 1:
                cues.append(None)
            behind = readings[game.reading(*stage, number, part)]
            cues.extend([("do", "take" + "abcde"[thing], "") for thing in stage[0] if thing not in behind[0]])
            if not self.write(game, behind, cues):
                return False
            if k < len(parts) - 1:
                cues[asked] = ("ask", asked + 1, len(cues))
        return True
