import itertools

from shownempty.craft import Craft
from shownempty.errors import BadExtra, BadMost, BadWorld, TooMany
from shownempty.hidings import hidings
from shownempty.making import Making
from shownempty.plotlines import read_plot
from shownempty.plots import Plot
from tests.acthelp import some_plots
from tests.helpers import NO_INTEGERS, NO_STRINGS, NO_TUPLES, Case, as_lists, coin_craft
from tests.test_making import LINES, many_plot_standings
from tests.test_standings import BAD_WORLDS

COIN = ("a", "", "")
BOTH = ("a", "", "a")
POCKET = ("", "", "a")
EXTRAS = (("a", 0), ("a", 2), ("b", 2))
ALL = tuple(("a", place) for place in range(3)) + tuple(("b", place) for place in range(3))
# When all that is wanted lies in the place 1, the plot can end.
FULL = ("show open aaa 1", "end ?,?,?")


def looked_first():
    """A plot that ends at once if a c is seen; if nothing is seen it is lost, and has 603 standings from 4 a and 4 b."""
    many, _ = many_plot_standings(11)
    craft = Craft(2, many.craft.gestures + (("look", (), (1,)),))
    cues = [("show", "look", ((("c",), 1), (("",), 2))), ("end", (None, None))]
    return Plot(craft, cues + [shifted(cue, 2) for cue in many])


def shifted(cue, many):
    """The cue of a plot with its numbers of cues greater by so many."""
    if cue[0] == "show":
        return ("show", cue[1], [(sight, target + many) for sight, target in cue[2]])
    return ("ask", cue[1] + many, cue[2] + many)


def put(world, things):
    """The world with these things more."""
    words = list(world)
    for kind, place in things:
        words[place] = "".join(sorted(words[place] + kind))
    return tuple(words)


def hidings_of(plot, start, extras, most):
    """The hidings, by trying out all that can be put in."""
    for number in range(most + 1):
        worlds = {put(start, things) for things in itertools.combinations_with_replacement(extras, number)}
        good = [world for world in sorted(worlds) if len("".join(world)) <= 8 and Making(plot, world)]
        if good:
            return number, tuple(good)
    return None


class TestHidings(Case):

    def setUp(self):
        self.plot = read_plot(coin_craft(), LINES)

    def test_hidings(self):
        # The empty hand can only be loaded if a second coin lies in the pocket; a third one is not needed.
        told = hidings(self.plot, COIN, EXTRAS, 3)
        self.assertEqual(told, (1, (BOTH,)))
        self.assert_plain(told)
        self.assertEqual(hidings(self.plot, COIN, (("a", 0), ("b", 2)), 3), None)
        self.assertEqual(hidings(self.plot, ("", "", ""), EXTRAS, 3), (1, (POCKET,)))

    def test_nothing_needs_to_be_hidden(self):
        self.assertEqual(hidings(self.plot, BOTH, EXTRAS, 3), (0, (BOTH,)))
        self.assertEqual(hidings(self.plot, list(BOTH), as_lists(EXTRAS), 0), (0, (BOTH,)))

    def test_the_most(self):
        self.assertEqual(hidings(self.plot, COIN, EXTRAS, 1), (1, (BOTH,)))
        self.assertEqual(hidings(self.plot, COIN, EXTRAS, 0), None)
        plot = read_plot(coin_craft(), FULL)
        self.assertEqual(hidings(plot, ("", "a", ""), (("a", 1),), 2), (2, (("", "aaa", ""),)))
        self.assertEqual(hidings(plot, ("", "", ""), (("a", 1),), 3), (3, (("", "aaa", ""),)))
        self.assertEqual(hidings(plot, ("", "", ""), (("a", 1),), 2), None)

    def test_all_worlds_with_the_least_number(self):
        # The hand can be loaded from the pocket, too; each of them twice is let.
        plot = read_plot(coin_craft(), FULL)
        self.assertEqual(hidings(plot, ("", "a", ""), ALL, 3), (2, (("", "aa", "a"), ("", "aaa", ""))))
        self.assertEqual(hidings(plot, ("", "a", ""), (("a", 1), ("a", 2)), 2), (2, (("", "aa", "a"), ("", "aaa", ""))))

    def test_eight_things_and_nine(self):
        plot = read_plot(coin_craft(), FULL)
        self.assertEqual(hidings(plot, ("bbbbb", "aa", ""), (("a", 1),), 3), (1, (("bbbbb", "aaa", ""),)))
        self.assertEqual(hidings(plot, ("bbbbbb", "aa", ""), (("a", 1),), 3), None)
        self.assertEqual(hidings(plot, ("bbbbb", "aaa", ""), (("a", 1),), 3), (0, (("bbbbb", "aaa", ""),)))
        # From a world of nine things it could be done.
        plot = read_plot(coin_craft(), ("show open aaaaaa 1", "end ?,?,?"))
        self.assertEqual(hidings(plot, ("bbb", "aaaa", ""), (("a", 1), ("a", 2)), 3), None)
        self.assertEqual(hidings(plot, ("bb", "aaaa", ""), (("a", 1), ("a", 2)), 3),
                         (2, (("bb", "aaaaa", "a"), ("bb", "aaaaaa", ""))))

    def test_1_and_6_and_7_extras(self):
        self.assertEqual(hidings(self.plot, COIN, (("a", 2),), 1), (1, (BOTH,)))
        self.assertEqual(hidings(self.plot, COIN, ALL, 1), (1, (BOTH,)))
        for extras in NO_TUPLES + ((), [], ALL + (("c", 0),), ALL + (None,)):
            self.refused(BadExtra(-1), hidings, self.plot, COIN, extras, None)

    def test_bad_extras(self):
        bad = [(kind, 2) for kind in NO_STRINGS + ("", "aa", "A", "*", "~", "1")]
        bad.extend([("b", place) for place in NO_INTEGERS + (-1, 3, 10 ** 39)])
        for thing in list(NO_TUPLES) + bad + [(), ("b",), ("b", 0, 0), (0, "b"), ("a", 1), ("a", 0), ["a", 1]]:
            self.refused(BadExtra(1), hidings, self.plot, COIN, (("a", 1), thing, None), 1)
            self.refused(BadExtra(1), hidings, self.plot, COIN, [["a", 1], thing], 1)
        self.refused(BadExtra(0), hidings, self.plot, COIN, (None, ("a", 1)), 1)
        self.assertEqual(hidings(self.plot, COIN, (("a", 1), ["a", 2], ("b", 0)), 1), (1, (BOTH,)))
        # The places are those of the craft.
        craft = Craft(2, (("nod", (), ()),))
        self.refused(BadExtra(0), hidings, Plot(craft, (("end", (None, None)),)), ("", ""), (("a", 2),), 1)

    def test_bad_most(self):
        for most in NO_INTEGERS + (-1, 4, 10 ** 39):
            self.refused(BadMost(most), hidings, self.plot, COIN, EXTRAS, most)

    def test_errors_in_their_order(self):
        for start in BAD_WORLDS:
            self.refused(BadWorld(start), hidings, self.plot, start, (), None)
        self.refused(BadExtra(-1), hidings, self.plot, COIN, (), None)
        self.refused(BadMost(4), hidings, looked_first(), ("aaaabbbb", ""), (("b", 0),), 4)

    def test_too_many_standings(self):
        plot, start = looked_first(), ("aaaabbb", "")
        good = ("aaaabbb", "c")
        self.refused(TooMany("standing"), hidings, plot, ("aaaabbbb", ""), (("c", 1),), 0)
        # All worlds with the number that is told are counted, but no greater numbers.
        self.assertEqual(hidings(plot, start, (("c", 1),), 3), (1, (good,)))
        self.assertEqual(hidings(plot, start, (("a", 1), ("c", 1)), 1), (1, (good,)))
        self.refused(TooMany("standing"), hidings, plot, start, (("b", 0), ("c", 1)), 1)
        self.refused(TooMany("standing"), hidings, plot, start, (("b", 0),), 3)
        self.assertEqual(hidings(plot, start, (("b", 0),), 0), None)
        self.assertEqual(hidings(plot, good, (("b", 0),), 3), (0, (good,)))

    def test_many_plots(self):
        told = set()
        for plot, start, rng in some_plots(700, 64):
            places = range(plot.craft.size)
            extras = sorted(rng.sample([(kind, place) for kind in "ab" for place in places], rng.randint(1, 4)))
            most = rng.randint(0, 3)
            found = hidings(plot, start, extras, most)
            self.assertEqual(found, hidings_of(plot, start, extras, most))
            told.add(found and found[0])
        self.assertLessEqual({None, 0, 1, 2}, told)
