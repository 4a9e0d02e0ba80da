import random

from shownempty.actlines import write_act
from shownempty.acts import Act
from shownempty.craft import Craft
from shownempty.craftlines import write_craft
from shownempty.errors import BadCue, BadGesture, BadLine, BadText, InUse, TooMany, Torn, Twice, Unknown
from shownempty.house import House
from shownempty.journal import read_journal, taken_up, write_journal
from shownempty.plotlines import read_plot, write_plot
from tests.helpers import NO_STRINGS, Case, coin_act, coin_craft
from tests.test_house import SMALL, coin_house, coin_plot, things_in

CRAFT = ("craft coin",) + write_craft(coin_craft()) + ("close",)
ACT = ("act again coin",) + write_act(coin_act()) + ("close",)
PLOT = ("plot hands coin",) + write_plot(coin_plot()) + ("close",)
STRIKE = ("strike again",)
LINES = CRAFT + ACT + PLOT + STRIKE
# The numbers of lines of the beginnings of whole deeds.
WHOLE = (0, 8, 14, 21, 22)


def longest(taken):
    """How many lines the longest beginning of whole deeds has that has no more than so many."""
    return max(number for number in WHOLE if number <= taken)


def struck_house():
    house = coin_house()
    house.strike("again")
    return house


class TestWritten(Case):

    def test_written(self):
        told = write_journal(struck_house())
        self.assertEqual(told, LINES)
        self.assert_plain(told)
        self.assertEqual(told[:3], ("craft coin", "craft 3", "gesture pass a01 -"))
        self.assertEqual(write_journal(House()), ())

    def test_what_is_undone_is_not_told(self):
        house = struck_house()
        house.undo()
        self.assertEqual(write_journal(house), LINES[:-1])
        house.undo()
        self.assertEqual(write_journal(house), CRAFT + ACT)
        house.redo()
        self.assertEqual(write_journal(house), LINES[:-1])

    def test_what_was_struck_later_is_told(self):
        house = House()
        for _ in range(2):
            house.keep_craft("small", SMALL)
            house.strike("small")
        once = ("craft small",) + write_craft(SMALL) + ("close", "strike small")
        self.assertEqual(write_journal(house), once * 2)
        self.assertEqual(read_journal(once * 2), house)


class TestRead(Case):

    def test_read(self):
        house = read_journal(LINES)
        self.assertIsInstance(house, House)
        self.assertEqual(house, struck_house())
        self.assertEqual(things_in(house), [("coin", None, coin_craft()), ("hands", "coin", coin_plot())])
        self.assertEqual(house.deeds, 4)
        house.undo()
        self.assertEqual(list(house), ["coin", "again", "hands"])
        self.assertEqual(read_journal(list(LINES)), struck_house())
        self.assertEqual(read_journal(()), House())

    def test_the_house_is_whoever_reads_its_own(self):
        first, second = read_journal(CRAFT), read_journal(CRAFT)
        first.keep_act("again", "coin", coin_act())
        self.assertEqual((len(first), len(second)), (2, 1))

    def test_taken_up(self):
        self.assertEqual(taken_up(LINES), (struck_house(), 22))
        self.assertEqual(taken_up(list(LINES)), (struck_house(), 22))
        self.assertIsInstance(taken_up(LINES), tuple)
        self.assertEqual(taken_up(()), (House(), 0))

    def test_cut_at_each_line(self):
        for number in range(len(LINES)):
            taken = longest(number)
            house, lines = taken_up(LINES[:number])
            self.assertEqual((write_journal(house), lines), (LINES[:taken], taken))
            if number in WHOLE:
                self.assertEqual(write_journal(read_journal(LINES[:number])), LINES[:number])
            else:
                self.torn(LINES[:number], taken, BadLine(number, 0))

    def torn(self, lines, first, cause):
        """The journal goes wrong in the deed with this first line, for this cause, and is taken up as far as there."""
        raised = self.refused(Torn(first), read_journal, lines)
        self.assertIs(type(raised.__cause__), type(cause))
        self.assertEqual(vars(raised.__cause__), vars(cause))
        house, taken = taken_up(lines)
        self.assertEqual((write_journal(house), taken), (tuple(lines[:first]), first))
        return raised.__cause__

    def test_spoilt_at_each_line(self):
        for number in range(len(LINES)):
            for line, word in (("", 0), (" " + LINES[number], 0), (LINES[number] + " ", None), ("none", 0), (None, 0),
                               (LINES[number] + " more", None), (7, 0), ("Close", 0)):
                first = longest(number)
                lines = LINES[:number] + (line,) + LINES[number + 1:]
                if word is None:
                    # What only begins like a close is a line of the thing, whose first word cannot come there.
                    word = len(LINES[number].split(" ")) if LINES[number] != "close" else 0
                self.torn(lines, first, BadLine(number, word))

    def test_lines_that_are_no_strings(self):
        for thing in NO_STRINGS:
            for number in (0, 1, 8, 9, 14, 21, 22):
                lines = LINES[:number] + (thing,) + LINES[number:]
                self.torn(lines, longest(number), BadLine(number, 0))

    def test_heads(self):
        for line, word in (("craft", 1), ("craft ", 1), ("craft Coin", 1), ("craft coinsandall", 1), ("craft 3", 1),
                           ("craft coin ", 2), ("craft coin more", 2), ("craft  coin", 1), ("act", 1), ("act again", 2),
                           ("act again Coin", 2), ("act 1 coin", 1), ("act again coin ", 3), ("act again coin more", 3),
                           ("plot hands", 2), ("plot hands -", 2), ("plot hands coin more", 3), ("strike", 1),
                           ("strike coin more", 2), ("strike Coin", 1), ("strike -", 1), ("close", 0), ("undo", 0),
                           ("gesture pass a01 -", 0), ("do pass -", 0), ("house", 0), ("Craft coin", 0)):
            self.torn((line,) + CRAFT, 0, BadLine(0, word))
            self.torn(CRAFT + (line,) + ACT, 8, BadLine(8, word))

    def test_lines_that_end_too_early(self):
        self.torn(("craft coin",), 0, BadLine(1, 0))
        self.torn(("craft coin", "close"), 0, BadLine(1, 0))
        self.torn(("craft coin", "craft 3"), 0, BadLine(2, 0))
        self.torn(CRAFT + ("act again coin",), 8, BadLine(9, 0))
        self.torn(CRAFT + ("strike coin", "craft coin"), 9, BadLine(10, 0))
        # What is read comes first: the thing itself is judged only when all its lines are there.
        self.torn(("craft coin", "craft 3", "none"), 0, BadLine(2, 0))
        self.torn(CRAFT + ("act again coin", "do none -"), 8, BadLine(10, 0))
        self.torn(CRAFT + ("act again none", "do pass -"), 8, BadLine(10, 0))

    def test_a_line_that_only_begins_like_a_close(self):
        self.torn(CRAFT[:-1] + ("close ",) + ACT, 0, BadLine(7, 0))
        self.torn(CRAFT[:-1] + ("close coin",) + ACT, 0, BadLine(7, 0))

    def test_texts_that_are_refused(self):
        lines = CRAFT[:2] + ("gesture pass a00 -",) + CRAFT[3:]
        cause = self.torn(lines, 0, BadLine(2, 2))
        self.assertEqual((type(cause.__cause__), cause.__cause__.at), (BadText, 2))
        lines = CRAFT + PLOT[:5] + ("end ?,ba,?", "close")
        cause = self.torn(lines, 8, BadLine(13, 1))
        self.assertEqual(cause.__cause__.at, 3)

    def test_things_that_cannot_be_made(self):
        self.torn(CRAFT[:2] + ("close",), 0, BadGesture(-1))
        self.torn(("craft coin", "craft 2", "gesture pass a02 -", "close"), 0, BadGesture(0))
        self.torn(("craft coin",) + CRAFT[1:3] + CRAFT[2:], 0, Twice("pass"))
        self.torn(CRAFT + ("act again coin", "close"), 8, BadCue(-1))
        self.torn(CRAFT + ("act again coin", "do pass keep", "close"), 8, BadCue(0))
        self.torn(CRAFT + ("act again coin",) + ("end",) * 61 + ("close",), 8, TooMany("cue"))
        self.torn(CRAFT + ("plot hands coin", "end ?,?", "close"), 8, BadCue(0))
        self.torn(CRAFT + ("plot hands coin", "close"), 8, BadCue(-1))
        self.assertEqual(taken_up(CRAFT + ("act again coin",) + ("end",) * 60 + ("close",))[1], 70)

    def test_things_that_cannot_be_added(self):
        self.torn(CRAFT + CRAFT, 8, Twice("coin"))
        self.torn(CRAFT + ACT + ACT, 14, Twice("again"))
        self.torn(CRAFT + ("plot coin coin",) + PLOT[1:], 8, Twice("coin"))
        # The errors of the thing come ahead of those of adding it.
        self.torn(CRAFT + ACT + ("act again coin", "do pass keep", "close"), 14, BadCue(0))
        self.torn(CRAFT + ("craft coin", "craft 3", "close"), 8, BadGesture(-1))

    def test_crafts_that_are_not_kept(self):
        # Without its craft a thing cannot be made: so only its lines are read.
        self.torn(ACT, 0, Unknown("coin"))
        self.torn(PLOT, 0, Unknown("coin"))
        self.torn(CRAFT + ("act again none", "do none -", "close"), 8, Unknown("none"))
        self.torn(CRAFT + ("act again none", "close"), 8, Unknown("none"))
        self.torn(CRAFT + ("plot again none", "end ?", "close"), 8, Unknown("none"))
        self.torn(CRAFT + ("act coin none", "end", "close"), 8, Twice("coin"))
        self.torn(CRAFT + ACT + ("act more again",) + ACT[1:], 14, Unknown("again"))
        self.torn(CRAFT + PLOT + ("plot more hands",) + PLOT[1:], 15, Unknown("hands"))
        self.torn(CRAFT + ("strike coin",) + ACT, 9, Unknown("coin"))

    def test_things_that_cannot_be_struck(self):
        self.torn(CRAFT + ("strike none",), 8, Unknown("none"))
        self.torn(CRAFT + ACT + ("strike coin",), 14, InUse("again"))
        self.torn(LINES + ("strike again",), 22, Unknown("again"))

    def test_30_and_31_things(self):
        small = write_craft(SMALL)
        lines = []
        for k in range(31):
            lines.extend(("craft " + "abcdefghijklmnopqrstuvwxyz"[k // 2] + "ab"[k % 2],) + small + ("close",))
        self.torn(tuple(lines), 120, TooMany("thing"))
        self.assertEqual(len(read_journal(lines[:120])), 30)
        self.assertEqual(len(read_journal(lines[:120] + ["strike aa"] + lines[120:])), 30)

    def test_crafts_of_acts_are_those_that_are_kept_then(self):
        other = Craft(3, coin_craft().gestures, ())
        lines = CRAFT + ("strike coin", "craft coin") + write_craft(other) + ("close",) + ("act open coin", "do open -", "end",
                                                                                         "close")
        self.assertEqual(read_journal(lines)["open"].craft, other)
        self.torn(lines[:-3] + ("do open load",) + lines[-2:], 15, BadCue(0))

    def test_what_the_lines_were_is_not_kept(self):
        lines = list(LINES)
        house, _ = taken_up(lines)
        lines.clear()
        self.assertEqual(house, struck_house())

    def test_many_houses(self):
        for seed in range(80):
            rng = random.Random(seed)
            house = House()
            for _ in range(25):
                self.something(rng, house)
            lines = write_journal(house)
            again = read_journal(lines)
            self.assertEqual(again, house)
            self.assertEqual(things_in(again), things_in(house))
            self.assertEqual(write_journal(again), lines)
            cut = rng.randint(0, len(lines))
            begun, taken = taken_up(lines[:cut])
            self.assertLessEqual(taken, cut)
            self.assertEqual(write_journal(begun), lines[:taken])
            while begun.deeds < house.deeds:
                house.undo()
            self.assertEqual(begun, house)

    def something(self, rng, house):
        """Some deed, if it can be done."""
        name, of = rng.choice("abcdefg"), rng.choice("abcdefg")
        craft = rng.choice((coin_craft(), coin_craft().without("load"), SMALL))
        try:
            what = rng.choice(("craft", "act", "plot", "strike", "undo", "redo"))
            if what == "craft":
                house.keep_craft(name, craft)
            elif what == "act" and of in house:
                house.keep_act(name, of, Act(house[of], (("end",),)) if house.craft_of(of) is None else coin_act())
            elif what == "plot":
                house.keep_plot(name, of, read_plot(coin_craft(), ("end ?,a,?",)))
            elif what == "strike":
                house.strike(name)
            elif what == "undo":
                house.undo()
            elif what == "redo":
                house.redo()
        except ValueError:
            return
