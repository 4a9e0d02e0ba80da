import random

from shownempty.acts import Act
from shownempty.bounds import Bounded
from shownempty.craft import Craft
from shownempty.ending import Ending
from shownempty.errors import BadKinds, BadPlaces, BadWorld, TooMany, Unlike
from shownempty.guests import Guest
from shownempty.hidings import hidings
from shownempty.lessons import lessons
from shownempty.machines import Machine
from shownempty.making import Making
from shownempty.needed import needed_lots
from shownempty.plays import Play
from shownempty.plotlines import read_plot
from shownempty.plots import Plot
from shownempty.renaming import Renaming
from shownempty.risks import Risks
from shownempty.senses import sense
from shownempty.slipgames import SlipGame
from shownempty.smooth import Smooth
from shownempty.stands import Stand
from shownempty.wishes import Keeps, Reaches
from shownempty.wonders import Wonder
from shownempty.worlds import fits
from tests.acthelp import rows_of, some_plays, some_plots
from tests.helpers import NO_INTEGERS, NO_STRINGS, NO_TUPLES, Case, as_lists, coin_act, coin_craft, partly_lists, spoil
from tests.sliphelp import some_games
from tests.standhelp import some_stands
from tests.test_making import LINES

TURN = (1, 2, 0)
SWAP = (("a", "b"), ("b", "a"))
COIN = ("a", "", "")


def some_renaming(rng, size):
    """A renaming of this size that renames some of the first letters among one another."""
    letters = rng.sample("abcz", rng.randint(0, 4))
    return Renaming(rng.sample(range(size), size), list(zip(letters, rng.sample(letters, len(letters)))))


class TestRenaming(Case):

    def setUp(self):
        self.renaming = Renaming(TURN, SWAP)

    def test_worlds(self):
        self.assertEqual(self.renaming(("a", "", "bz")), ("az", "b", ""))
        self.assertEqual(self.renaming(["aab", "b", ""]), ("", "abb", "a"))
        self.assertEqual(Renaming([1, 0])(("ab", "")), ("", "ab"))
        self.assert_plain(self.renaming(["a", "", ""]))
        for world in NO_TUPLES + (("", ""), ("",) * 4, ("ba", "", ""), (None, "", ""), (True, "", ""), ("aaaaa", "aaaa", "")):
            self.refused(BadWorld(world), self.renaming, world)

    def test_the_words_are_sorted_again(self):
        self.assertEqual(Renaming((0, 1), (("a", "z"), ("z", "a")))(("aabz", "")), ("abzz", ""))

    def test_places_and_kinds(self):
        self.assertEqual([self.renaming.of_place(place) for place in range(4)], [1, 2, 0, 3])
        self.assertEqual([self.renaming.of_kind(kind) for kind in "abcz"], ["b", "a", "c", "z"])
        self.assertEqual(Renaming((1, 0)).of_place(2), 2)

    def test_deeds(self):
        self.assertEqual(self.renaming.of_deed((("a", 0, 1), ("*", 2, 0), ("~", 1, 2))),
                         (("b", 1, 2), ("*", 0, 1), ("~", 2, 0)))
        self.assertEqual(self.renaming.of_deed([]), ())
        self.assertEqual(self.renaming.of_deed([["z", 2, 1]]), (("z", 0, 2),))

    def test_patterns(self):
        self.assertEqual(self.renaming.of_pattern(("ab", None, "")), ("", "ab", None))
        self.assertEqual(self.renaming.of_pattern([None, "bbb", "a"]), ("b", None, "aaa"))
        self.assert_plain(self.renaming.of_pattern([None, "bbb", "a"]))

    def test_crafts(self):
        craft = Craft(3, (("pass", (("a", 0, 1),), (0, 2)), ("open", (), (1,))),
                      (("keep", "pass", (("b", 2, 0),), 2, (0, 2, 3)), ("load", "open", (("~", 0, 2),), 5, ())))
        self.assertEqual(self.renaming.of_craft(craft),
                         Craft(3, (("pass", (("b", 1, 2),), (0, 1)), ("open", (), (2,))),
                               (("keep", "pass", (("a", 0, 1),), 2, (0, 1, 3)), ("load", "open", (("~", 1, 0),), 5, ()))))

    def test_acts(self):
        act = Act(coin_craft(), (("glance", 2, "a", 3), ("do", "open", "load"), ("ask", 0, 3), ("go", 4), ("end",)))
        renamed = self.renaming.of_act(act)
        self.assertEqual(renamed.craft, self.renaming.of_craft(coin_craft()))
        self.assertEqual(renamed.cues, (("glance", 0, "b", 3),) + act.cues[1:])

    def test_plots(self):
        craft = Craft(3, (("look", (), (0, 1, 2)), ("peer", (), (0, 2)), ("nod", (), ())))
        plot = Plot(craft, (("show", "look", ((("a", None, "bz"), 1), ((None, "", "ab"), 2))),
                            ("show", "peer", (((None, "a"), 2),)), ("show", "nod", (((), 3),)), ("ask", 0, 4),
                            ("end", ("a", None, "b"))))
        renamed = self.renaming.of_plot(plot)
        self.assertEqual(renamed.craft, self.renaming.of_craft(craft))
        # The places 0 and 2 become 1 and 0: so what was seen in the place 2 is seen first.
        self.assertEqual(renamed.cues, (("show", "look", ((("az", "b", None), 1), (("ab", None, ""), 2))),
                                        ("show", "peer", ((("b", None), 2),)), ("show", "nod", (((), 3),)), ("ask", 0, 4),
                                        ("end", ("a", "b", None))))
        self.assert_plain(renamed.cues)

    def test_seen_things(self):
        craft = Craft(3, (("look", (), (0, 1, 2)), ("peer", (), (0, 2)), ("nod", (), ())))
        seen = (("look", ("a", "", "bz")), "1", ("peer", ("aab", "")), ("nod", ()), "0")
        renamed = (("look", ("az", "b", "")), "1", ("peer", ("", "abb")), ("nod", ()), "0")
        self.assertEqual(self.renaming.of_seen(craft, seen), renamed)
        self.assertEqual(self.renaming.of_seen(craft, as_lists(seen)), renamed)
        self.assertEqual(self.renaming.of_seen(seen=(), craft=craft), ())
        self.assert_plain(self.renaming.of_seen(craft, as_lists(seen)))

    def test_undone(self):
        undone = self.renaming.undone()
        self.assertEqual((undone.places, undone.kinds), ((2, 0, 1), (("a", "b"), ("b", "a"))))
        self.assertEqual(undone(self.renaming(("a", "b", "z"))), ("a", "b", "z"))
        turned = Renaming((0, 1), (("c", "a"), ("a", "b"), ("b", "c"), ("z", "z")))
        self.assertEqual(turned.undone().kinds, (("a", "c"), ("b", "a"), ("c", "b"), ("z", "z")))
        self.assertEqual(Renaming(TURN).undone(), Renaming((2, 0, 1)))

    def test_products(self):
        other = Renaming((0, 2, 1), (("b", "c"), ("c", "b")))
        product = self.renaming * other
        self.assertEqual((product.places, product.kinds), ((2, 1, 0), (("a", "c"), ("b", "a"), ("c", "b"))))
        self.assertEqual(product(("a", "b", "c")), other(self.renaming(("a", "b", "c"))))
        # There is a pair for each letter that is named, also if it stays.
        self.assertEqual((self.renaming * self.renaming).kinds, (("a", "a"), ("b", "b")))
        self.assertEqual((Renaming((0, 1), (("z", "z"),)) * Renaming((1, 0), (("b", "b"),))).kinds, (("b", "b"), ("z", "z")))
        self.assertEqual((Renaming((1, 0)) * Renaming((1, 0))), Renaming((0, 1)))
        self.assertEqual((self.renaming.places, other.kinds), (TURN, (("b", "c"), ("c", "b"))))

    def test_products_of_unlike_things(self):
        self.refused(Unlike("size"), lambda: self.renaming * Renaming((1, 0)))
        for thing in (None, 2, "a", (0, 1, 2), coin_craft()):
            with self.assertRaises(TypeError):
                self.renaming * thing

    def test_equal(self):
        self.assertIs(self.renaming == Renaming(list(TURN), as_lists(SWAP)), True)
        for other in (Renaming(TURN), Renaming((0, 1, 2), SWAP), Renaming(TURN, SWAP[::-1]), None, TURN, (TURN, SWAP), 0):
            self.assertIs(self.renaming == other, False)
            self.assertIs(self.renaming != other, True)
        self.assertNotEqual(Renaming((0, 1), (("a", "a"),)), Renaming((0, 1)))

    def test_attributes(self):
        places, kinds = list(TURN), as_lists(SWAP)
        renaming = Renaming(kinds=kinds, places=places)
        spoil(places)
        spoil(kinds)
        self.assertEqual((renaming.places, renaming.kinds), (TURN, SWAP))
        self.assertEqual(Renaming(TURN, partly_lists(SWAP)).kinds, SWAP)
        self.assertEqual(Renaming((1, 0)).kinds, ())

    def test_bad_places(self):
        bad = [(1, thing) for thing in NO_INTEGERS + (-1, 1, 2, 10 ** 39)]
        for places in list(NO_TUPLES) + bad + [(), (0,), (0, 0), (1, 2), (0, 1, 3), (0, 1, 2, 3, 4, 5, 6), (True, False)]:
            self.refused(BadPlaces(places), Renaming, places, None)
        self.assertEqual(Renaming((5, 4, 3, 2, 1, 0)).places, (5, 4, 3, 2, 1, 0))

    def test_bad_kinds(self):
        bad = [((thing, "a"), ("a", thing)) for thing in NO_STRINGS + ("", "ab", "A", "*", "~", "1")]
        bad.extend([(("a", "b"),), (("a", "b"), ("b", "b")), (("a", "b"), ("a", "b")), (("a", "b"), ("b", "c")),
                    (("a", "a"), ("a", "a")), ("ab", "ba"), (("a", "b", "c"), ("b", "a")), (("a",), ("b",)), ((), ())])
        for kinds in list(NO_TUPLES) + bad:
            self.refused(BadKinds(kinds), Renaming, TURN, kinds)

    def test_unlike_sizes(self):
        small = Renaming((1, 0))
        self.refused(Unlike("size"), small.of_craft, coin_craft())
        self.refused(Unlike("size"), small.of_act, coin_act())
        self.refused(Unlike("size"), small.of_plot, Plot(coin_craft(), (("end", COIN),)))
        self.refused(Unlike("size"), small.of_seen, coin_craft(), (("pass", ()),))


class TestTogether(Case):

    def test_undone_and_multiplied(self):
        rng = random.Random(96)
        for _ in range(300):
            size = rng.randint(2, 6)
            first, second, third = [some_renaming(rng, size) for _ in range(3)]
            world = tuple(["".join(sorted(rng.choice(("", "a", "b", "c")) + rng.choice(("", "z")))) if size < 5 else
                           rng.choice(("", "a", "z")) for _ in range(size)])
            self.assertEqual((first * second)(world), second(first(world)))
            self.assertEqual(first.undone()(first(world)), world)
            self.assertEqual(((first * second) * third)(world), (first * (second * third))(world))
            self.assertEqual((first * second).undone()(world), (second.undone() * first.undone())(world))
            self.assertEqual(first.undone().kinds, tuple(sorted(first.undone().kinds)))
            for kind in "abcz":
                self.assertEqual((first * second).of_kind(kind), second.of_kind(first.of_kind(kind)))

    def test_plays_and_verdicts(self):
        for act, start, rng in some_plays(200, 97):
            renaming = some_renaming(rng, act.craft.size)
            other, begun = renaming.of_act(act), renaming(start)
            self.assertEqual(renaming.undone().of_act(other), act)
            wish = tuple([rng.choice((None, "", "a")) for _ in start])
            renamed = renaming.of_pattern(wish)
            for row in rows_of(3):
                try:
                    play = Play(act, start, row)
                except ValueError:
                    continue
                there = Play(other, begun, row)
                self.assertEqual(there.shown, (renaming.of_seen(act.craft, play.events), play.rest))
                self.assertEqual((there.price, there.last), (play.price, (play.last[0], renaming(play.last[1]))))
                self.assertEqual(fits(there.last[1], renamed), fits(play.last[1], wish))
            for verdict in (Smooth, Ending, Bounded):
                self.assertIs(bool(verdict(act, start)), bool(verdict(other, begun)))
            self.assertEqual(Smooth(act, start).answers, Smooth(other, begun).answers)
            self.assertEqual(Ending(act, start).breach, Ending(other, begun).breach)
            self.assertEqual(Bounded(act, start).bound, Bounded(other, begun).bound)
            for verdict in (Keeps, Reaches):
                self.assertEqual(verdict(act, start, wish).answers, verdict(other, begun, renamed).answers)
            self.assertEqual(len(Machine(act, start)), len(Machine(other, begun)))
            self.assertEqual(needed_lots(act, start), needed_lots(other, begun))

    def test_senses(self):
        for act, _, rng in some_plays(200, 98):
            craft, renaming = act.craft, some_renaming(rng, act.craft.size)
            for _, deed, _ in craft.gestures:
                here, there = sense(craft.size, deed), sense(craft.size, renaming.of_deed(deed))
                self.assertEqual(here is None, there is None)
                if here is not None:
                    where, nets, needs = here
                    self.assertEqual(there[0], tuple([renaming.of_place(where[renaming.undone().of_place(place)])
                                                      for place in range(craft.size)]))
                    self.assertEqual(there[1], tuple(sorted([(renaming.of_place(place), renaming.of_kind(kind), number)
                                                             for place, kind, number in nets])))
                    self.assertEqual(len(there[2]), len(needs))

    def test_minds_and_stands(self):
        told = set()
        for (act, start, guest, wish, challenges), rng in some_stands(120, 99):
            renaming = some_renaming(rng, act.craft.size)
            other, begun = renaming.of_act(act), renaming(start)
            there = Guest(other.craft, sorted([renaming(world) for world in guest.held]), guest.known, guest.most)
            events = Play(act, start).events[:24]
            mind = tuple(sorted([(renaming(world), fewest) for world, fewest in guest.mind(events)]))
            self.assertEqual(there.mind(renaming.of_seen(act.craft, events)), mind)
            try:
                self.assertEqual(Wonder(act, start, guest).answers, Wonder(other, begun, there).answers)
                stand = Stand(act, start, guest, wish, challenges, most=1)
            except TooMany:
                continue
            renamed = Stand(other, begun, there, renaming.of_pattern(wish), challenges, most=1)
            self.assertEqual((bool(stand), len(stand)), (bool(renamed), len(renamed)))
            self.assertEqual(stand.delay(stand.beginning), renamed.delay(renamed.beginning))
            self.assertEqual(stand.catch(stand.beginning), renamed.catch(renamed.beginning))
            told.add(bool(stand))
        self.assertEqual(told, {True, False})

    def test_plots_and_their_values(self):
        for plot, start, rng in some_plots(200, 100):
            renaming = some_renaming(rng, plot.craft.size)
            other, begun = renaming.of_plot(plot), renaming(start)
            self.assertEqual(renaming.undone().of_plot(other), plot)
            here, there = Making(plot, start), Making(other, begun)
            self.assertEqual(len(here), len(there))
            for (number, world), value in here:
                standing = (number, renaming(world))
                self.assertEqual((there[standing], there.delay(standing)), (value, here.delay((number, world))))
                self.assertEqual(there.forced(standing, 3), here.forced((number, world), 3))
            self.assertEqual(lessons(plot, start), lessons(other, begun))
            extras = (("a", 0), ("b", 1))
            told = hidings(plot, start, extras, 2)
            renamed = hidings(other, begun, sorted([(renaming.of_kind(kind), renaming.of_place(place))
                                                    for kind, place in extras]), 2)
            self.assertEqual(renamed, told and (told[0], tuple(sorted([renaming(world) for world in told[1]]))))

    def test_games_against_slips(self):
        for plot, risks, start, rng in some_games(150, 101):
            renaming = some_renaming(rng, plot.craft.size)
            other = renaming.of_plot(plot)
            there = Risks(other.craft, [(name, renaming.of_deed(deed)) for name, deed in risks.fails])
            here, there = SlipGame(plot, risks, start, 1), SlipGame(other, there, renaming(start), 1)
            self.assertEqual(len(here), len(there))
            for (number, world, made), value in here:
                self.assertEqual(there[number, renaming(world), made], value)

    def test_the_plot_of_the_coin(self):
        plot = read_plot(coin_craft(), LINES)
        renaming = Renaming(TURN, SWAP)
        self.assertEqual(renaming(("a", "", "a")), ("b", "b", ""))
        self.assertEqual(Making(renaming.of_plot(plot), ("b", "b", "")).least, 7)
