from shownempty.acts import Act
from shownempty.craft import Craft
from shownempty.errors import TooMany
from shownempty.evenings import Evening
from shownempty.residence import Residence, judge_delays, judge_worlds
from tests.acthelp import changed_rows
from tests.eveninghelp import delays_of, ends_of, preparings_of, rich_evenings, some_evenings
from tests.helpers import NO_INTEGERS, Case, as_lists, coin_craft, partly_lists
from tests.test_evenings import ANY, END, LEFT, POCKET, RIGHT, SHOW, coin_evening, piece_of
from tests.test_standings import BAD_WORLDS, many_standings

# The coin is taken out of the right hand, and out of the pocket, but never from the left hand to the right one.
PASSES = ("do", "pass", "")
THERE = (RIGHT, LEFT)


def going_on(pockets=(((("a", 1, 0),), 2),), start=LEFT):
    """An evening of one act, by which the coin passes from hand to hand; by the pocket it comes back."""
    return Evening((("pass", Act(coin_craft(), (PASSES, END)), ANY),), pockets, start)


def three_passes():
    """An evening of one act without pockets: three coins can be passed, one each time."""
    return going_on((), ("aaa", "", ""))


HEAPS = (("", "aaa", ""), ("a", "aa", ""), ("aa", "a", ""), ("aaa", "", ""))
DELAYS = tuple((heap, delay) for delay, heap in enumerate(HEAPS, 1))


class TestResidence(Case):

    def test_for_ever(self):
        residence = Residence(going_on())
        self.assertIs(bool(residence), True)
        self.verdict(residence, THERE)

    def test_not_for_ever(self):
        residence = Residence(three_passes())
        self.assertIs(bool(residence), False)
        self.verdict(residence, DELAYS)

    def test_a_piece_that_cannot_be_done_at_once(self):
        # It cannot be shown from the left hand, and the pockets do not help.
        residence = Residence(coin_evening())
        self.assertIs(bool(residence), False)
        self.verdict(residence, ((LEFT, 1),))
        residence = Residence(Evening((piece_of(SHOW),), (), LEFT))
        self.verdict(residence, ((LEFT, 1),))

    def test_sound_worlds_beside_lost_ones(self):
        # From the pocket the coin can be taken to either hand, and from the left one never back.
        pieces = (("show", Act(coin_craft(), (("do", "open", ""), END)), (None, "a", None)),)
        evening = Evening(pieces, (((("a", 2, 1),), 1), ((("a", 2, 0),), 1)), POCKET)
        self.verdict(Residence(evening), (POCKET, RIGHT))
        evening = Evening(pieces, (((("a", 2, 1),), 1), ((("a", 0, 2),), 1)), LEFT)
        self.verdict(Residence(evening), (POCKET, RIGHT, LEFT))
        lost = Evening(pieces + (("left", Act(coin_craft(), (END,)), ("a", None, None)),), evening.pockets, LEFT)
        self.verdict(Residence(lost), ((POCKET, 1), (RIGHT, 1), (LEFT, 2)))

    def test_delays(self):
        # The guests call the piece that fails first; of the worlds that can be prepared the conjuror takes the latest;
        # of its ends the guests bring about the one with the least delay.
        craft = Craft(2, (("take", (("a", 0, 1),), ()), ("two", (("a", 0, 1), ("a", 0, 1)), ())))
        one, two = Act(craft, (("do", "take", ""), END)), Act(craft, (("do", "two", ""), END))
        either = Act(craft, (("ask", 1, 3), ("do", "take", ""), END, ("do", "two", ""), END))
        free = (None, None)
        worlds = [("a" * (4 - k), "a" * k) for k in range(4, -1, -1)]
        start = ("aaaa", "")
        for pieces, delays in (((("one", one, free),), (1, 2, 3, 4, 5)), ((("two", two, free),), (1, None, 2, None, 3)),
                               ((("one", one, free), ("two", two, free)), (1, 1, 2, 2, 3)),
                               ((("either", either, free),), (1, 1, 2, 2, 3))):
            evening = Evening(pieces, (), start)
            table = tuple((world, delay) for world, delay in zip(worlds, delays) if delay is not None)
            self.verdict(Residence(evening), table)
        # By a pocket a thing can be taken over, too: for the conjuror it is better not to.
        evening = Evening((("one", one, free),), (((("a", 0, 1),), 0),), start)
        self.assertEqual([delay for _, delay in Residence(evening)], [1, 2, 3, 4, 5])

    def test_attribute(self):
        evening = going_on()
        self.assertIs(Residence(evening=evening).evening, evening)

    def test_many_evenings(self):
        told = set()
        for evenings in (some_evenings(150, 118), rich_evenings(100, 119)):
            for evening, _ in evenings:
                residence, delays = Residence(evening), delays_of(evening)
                sound = tuple([world for world in evening.worlds if world not in delays])
                lost = tuple(sorted(delays.items()))
                self.assertIs(bool(residence), evening.start not in delays)
                self.verdict(residence, lost if evening.start in delays else sound)
                self.assertEqual(judge_worlds(evening, sound), None if residence else -1)
                self.assertEqual(judge_delays(evening, lost), -1 if residence else None)
                told.add((bool(residence), max(delays.values(), default=0)))
                if residence:
                    self.assertNotEqual(evening.value(evening.start, tuple(sorted(piece[0] for piece in evening))), -1)
        self.assertLessEqual({(True, 0), (False, 1), (False, 2), (True, 1)}, told)


class TestWorlds(Case):

    def setUp(self):
        self.evening = going_on()

    def judge(self, table):
        return judge_worlds(self.evening, table)

    def test_right(self):
        self.judged(self.judge, THERE, None)
        self.judged(self.judge, THERE[::-1] + THERE, None)
        self.assertIsNone(self.judge([list(RIGHT), LEFT]))

    def test_rows_left_out(self):
        for k, rows in changed_rows(THERE):
            self.judged(self.judge, rows, (0, -1)[k])
        self.judged(self.judge, (), -1)

    def test_the_prepared_worlds_need_not_be_there(self):
        # From the pocket the coin comes into the left hand, from there by the act into the right one.
        evening = Evening((("pass", Act(coin_craft(), (PASSES, END)), ANY),),
                          (((("a", 1, 2),), 0), ((("a", 2, 0),), 0)), POCKET)
        self.assertEqual(evening.worlds, (POCKET, RIGHT, LEFT))
        self.judged(lambda table: judge_worlds(evening, table), (POCKET, RIGHT), None)
        self.judged(lambda table: judge_worlds(evening, table), (POCKET, LEFT), 0)

    def test_rows_never_reached(self):
        self.judged(self.judge, THERE + (("aa", "", ""), ("a", "a", "")), None)
        self.judged(self.judge, THERE + (("aa", "", ""),), 2)
        self.judged(self.judge, THERE + (("", "", ""),), 2)
        self.judged(self.judge, THERE + (POCKET,), 2)

    def test_all_ends_and_all_pieces(self):
        craft = coin_craft()
        either = ("either", Act(craft, (("ask", 2, 1), PASSES, END)), ANY)
        stay = ("stay", Act(craft, (END,)), ("a", None, None))
        pockets = (((("a", 1, 0),), 0),)
        evening = Evening((stay, either), pockets, LEFT)
        self.judged(lambda table: judge_worlds(evening, table), (LEFT, RIGHT), None)
        self.judged(lambda table: judge_worlds(evening, table), (LEFT,), 0)
        evening = Evening((stay, either), (), LEFT)
        self.judged(lambda table: judge_worlds(evening, table), (LEFT, RIGHT), 1)

    def test_rows_of_another_form(self):
        for row in BAD_WORLDS:
            self.assertEqual(self.judge(THERE + (row,)), 2)
            self.assertEqual(self.judge((row,) + THERE), 0)
            self.assertEqual(self.judge((row, RIGHT)), -1)

    def test_acts_are_judged_however_many_standings_they_have(self):
        # From the row that is never reached the act has 601 standings; it would be good if it came to an end.
        act, start = many_standings(11)
        craft = act.craft
        ends = Act(craft, act.cues[:-1] + (("ask", 11, 11),))
        evening = Evening((("over", ends, (None, None)),), (), ("", ""))
        self.assertEqual(judge_worlds(evening, (("", ""), start)), 0)
        long = Act(craft, [("do", "nod", "")] * 57 + [("ask", 58, 58), END])
        evening = Evening((("nod", long, (None, None)),), (), ("", ""))
        self.assertIsNone(judge_worlds(evening, (("", ""), start)))

    def test_a_good_act_with_very_many_standings(self):
        # Of eight letters each is taken over or not: from their world there are more than 600 standings, and 256 ends.
        letters = "abcdefgh"
        craft = Craft(2, [(letter, ((letter, 0, 1),), ()) for letter in letters])
        cues = [("glance", 0, "h", 2), END]
        for letter in letters:
            cues.extend([("ask", len(cues) + 1, len(cues) + 2), ("do", letter, "")])
        small, start = ("", ""), (letters, "")
        pieces = (("all", Act(craft, cues + [END]), (None, None)),)
        self.refused(TooMany("world"), Evening, pieces, (), start)
        evening = Evening(pieces, (), small)
        ends = [("".join(letter for k, letter in enumerate(letters) if not bits >> k & 1),
                 "".join(letter for k, letter in enumerate(letters) if bits >> k & 1)) for bits in range(256)]
        self.assertEqual(ends[0], start)
        # From an end where the h is left, but not all others, the act can be stuck.
        self.assertEqual(judge_worlds(evening, [small] + ends), 2)
        self.assertEqual(judge_worlds(evening, [small, start]), 1)
        self.assertEqual(judge_worlds(evening, [small] + [end for end in ends if "h" not in end[0]]), None)
        self.assertEqual(judge_delays(evening, ((small, 1),)), 0)
        self.assertEqual(judge_delays(evening, ((small, 3), (start, 2), (ends[1], 1))), 0)
        self.assertEqual(judge_delays(evening, ((start, 2), (ends[1], 1), (small, 3))), 2)

    def test_many_evenings(self):
        for evening, rng in rich_evenings(60, 120):
            rows = [world for world in evening.worlds if rng.random() < 0.8]
            expected = [k for k, world in enumerate(rows) if not self.is_right(evening, world, rows)]
            if evening.start not in rows:
                expected = [-1]
            self.assertEqual(judge_worlds(evening, rows), expected[0] if expected else None)

    def is_right(self, evening, world, rows):
        return all(any(set(ends_of(evening, piece[0], there) or [None]) <= set(rows)
                       for there in preparings_of(evening, world)) for piece in evening)


class TestDelays(Case):

    def setUp(self):
        self.evening = three_passes()

    def judge(self, table):
        return judge_delays(self.evening, table)

    def test_right(self):
        self.judged(self.judge, DELAYS, None)
        self.judged(self.judge, DELAYS[::-1] + DELAYS, None)
        self.assertIsNone(self.judge(as_lists(DELAYS)))
        self.assertIsNone(self.judge(partly_lists(DELAYS)))
        self.judged(self.judge, [(heap, delay * 10 ** 38) for heap, delay in DELAYS], None)

    def test_rows_left_out(self):
        for k, rows in changed_rows(DELAYS):
            self.judged(self.judge, rows, (0, 1, 2, -1)[k])
        self.judged(self.judge, (), -1)

    def test_delays_that_are_not_less(self):
        for k in (1, 2, 3):
            heap, delay = DELAYS[k]
            self.judged(self.judge, DELAYS[:k] + ((heap, delay - 1),) + DELAYS[k + 1:], k)
        # Where nothing can be done any delay from 1 is right.
        self.judged(self.judge, ((HEAPS[0], 9),) + DELAYS[1:], 1)
        self.judged(self.judge, DELAYS + ((("", "", ""), 7),), None)

    def test_all_that_can_be_prepared(self):
        evening = going_on()
        self.judged(lambda table: judge_delays(evening, table), ((LEFT, 2), (RIGHT, 1)), 1)
        # From either hand one comes to the same end: it is not lost by having no other.
        self.judged(lambda table: judge_delays(evening, table), ((LEFT, 2), (RIGHT, 3)), 0)
        pieces = (("pass", Act(coin_craft(), (PASSES, END)), ANY), ("none", Act(coin_craft(), (END,)), ("", "", None)))
        both = Evening(pieces, evening.pockets, LEFT)
        self.judged(lambda table: judge_delays(both, table), ((LEFT, 1),), None)
        # Two worlds can be prepared, with unlike ends; both must be there.
        craft = Craft(3, (("far", (("*", 0, 1), ("*", 1, 2)), ()), ("near", (("~", 0, 1),), ())))
        act = Act(craft, (("glance", 0, "a", 3), ("do", "near", ""), ("go", 4), ("do", "far", ""), END))
        evening = Evening((("act", act, (None, None, None)),), (((("a", 0, 1),), 0),), LEFT)
        self.assertEqual([evening.ends("act", world) for world in (LEFT, RIGHT)], [(POCKET,), (LEFT,)])
        judge = lambda table: judge_delays(evening, table)
        self.judged(judge, ((LEFT, 2), (POCKET, 1)), 0)
        self.judged(judge, ((LEFT, 2), (RIGHT, 1), (POCKET, 1)), 0)

    def test_one_end_is_enough(self):
        craft = coin_craft()
        act = Act(craft, (("ask", 2, 1), PASSES, END))
        evening = Evening((("either", act, ANY),), (), LEFT)
        self.judged(lambda table: judge_delays(evening, table), ((LEFT, 2), (RIGHT, 1)), None)
        self.judged(lambda table: judge_delays(evening, table), ((LEFT, 1), (RIGHT, 1)), 0)
        self.judged(lambda table: judge_delays(evening, table), ((LEFT, 2),), 0)

    def test_the_first_of_several_rows_counts(self):
        self.judged(self.judge, DELAYS + ((HEAPS[1], 3),), None)
        self.judged(self.judge, ((HEAPS[1], 3),) + DELAYS, 3)
        self.judged(self.judge, ((HEAPS[1], 0),) + DELAYS, 0)

    def test_rows_never_reached(self):
        self.judged(self.judge, DELAYS + ((("aa", "", ""), 9),), 4)
        self.judged(self.judge, DELAYS + ((("a", "", ""), 2), (("", "a", ""), 1)), None)

    def test_rows_of_another_form(self):
        # Where nothing can be done any delay is right.
        rows = [(row, 1) for row in BAD_WORLDS]
        rows.extend([(HEAPS[k], number) for k in (0, 3) for number in NO_INTEGERS + (0, -1)])
        for row in rows + [HEAPS[3], (HEAPS[3],), (HEAPS[3], 4, 0)] + list(BAD_WORLDS):
            self.assertEqual(self.judge(DELAYS + (row,)), 4)
            self.assertEqual(self.judge((row,) + DELAYS), 0)
            self.assertEqual(self.judge((row,) + DELAYS[:3]), -1)

    def test_many_evenings(self):
        told = set()
        for evening, rng in rich_evenings(200, 121):
            delays = delays_of(evening)
            table = sorted(delays.items())
            for k, (world, delay) in enumerate(table):
                rows = table[:k] + [(world, delay - 1)] + table[k + 1:]
                if delay > 1 and evening.start in delays:
                    self.assertIsNotNone(judge_delays(evening, rows))
                    told.add(delay)
        self.assertLessEqual({2, 3}, told)
