import random

from shownempty.acts import Act
from shownempty.craft import Craft
from shownempty.errors import BadName, InUse, NoDeed, TooMany, Twice, Unknown, Unlike
from shownempty.house import House
from shownempty.plotlines import read_plot
from shownempty.plots import Plot
from tests.helpers import NO_STRINGS, Case, coin_act, coin_craft
from tests.test_making import LINES

SMALL = Craft(2, (("nod", (), ()),))
NODS = Act(SMALL, (("do", "nod", ""), ("end",)))
NO_NAMES = NO_STRINGS + ("", "Coin", "c1", "a b", "coins" * 2, "-")


def coin_plot():
    return read_plot(coin_craft(), LINES)


def coin_house():
    """A house with a craft, an act and a plot."""
    house = House()
    house.keep_craft("coin", coin_craft())
    house.keep_act("again", "coin", coin_act())
    house.keep_plot("hands", "coin", coin_plot())
    return house


def things_in(house):
    return [(name, house.craft_of(name), house[name]) for name in house]


class TestHouse(Case):

    def setUp(self):
        self.house = coin_house()

    def test_an_empty_house(self):
        house = House()
        self.assertEqual((len(house), list(house), house.deeds), (0, [], 0))
        self.assertIs("coin" in house, False)
        self.refused(NoDeed(), house.undo)
        self.refused(NoDeed(), house.redo)
        self.refused(Unknown("coin"), lambda: house["coin"])

    def test_things_are_kept(self):
        self.assertEqual((len(self.house), list(self.house), self.house.deeds), (3, ["coin", "again", "hands"], 3))
        self.assertEqual([self.house[name] for name in self.house], [coin_craft(), coin_act(), coin_plot()])
        self.assertEqual([self.house.craft_of(name) for name in self.house], [None, "coin", "coin"])
        craft, act = coin_craft(), coin_act()
        house = House()
        house.keep_craft(craft=craft, name="coin")
        house.keep_act(act=act, of="coin", name="act")
        house.keep_plot(plot=coin_plot(), of="coin", name="plot")
        self.assertIs(house["coin"], craft)
        self.assertIs(house["act"], act)
        self.assertEqual(list(house), ["coin", "act", "plot"])

    def test_nothing_is_returned(self):
        house = House()
        told = [house.keep_craft("coin", coin_craft()), house.keep_act("again", "coin", coin_act()),
                house.keep_plot("hands", "coin", coin_plot()), house.strike("hands"), house.undo(), house.redo()]
        self.assertEqual(told, [None] * 6)

    def test_looked_up(self):
        self.assertIs("hands" in self.house, True)
        for name in NO_NAMES + ("hand", "pass"):
            self.assertIs(name in self.house, False)
            self.refused(Unknown(name), lambda: self.house[name])
            self.refused(Unknown(name), self.house.craft_of, name)
        self.refused(Unknown(0), lambda: self.house[0])

    def test_errors_of_adding_in_their_order(self):
        other = coin_craft().without("keep")
        act, plot = Act(other, (("end",),)), Plot(other, (("end", (None,) * 3),))
        before = things_in(self.house)
        for call, thing in ((self.house.keep_act, act), (self.house.keep_plot, plot)):
            for name in NO_NAMES:
                self.refused(BadName(name), call, name, "none", thing)
            for name in ("coin", "again", "hands"):
                self.refused(Twice(name), call, name, "none", thing)
            for of in NO_NAMES + ("none", "new", "again", "hands"):
                self.refused(Unknown(of), call, "new", of, thing)
            self.refused(Unlike("craft"), call, "new", "coin", thing)
        for name in NO_NAMES:
            self.refused(BadName(name), self.house.keep_craft, name, other)
        for name in ("coin", "again", "hands"):
            self.refused(Twice(name), self.house.keep_craft, name, other)
        self.assertEqual((things_in(self.house), self.house.deeds), (before, 3))

    def test_30_and_31_things(self):
        house = coin_house()
        for k in range(27):
            house.keep_craft("more" + "abcdefghijklmnopqrstuvwxyz"[k // 2] + "ab"[k % 2], SMALL)
        self.assertEqual((len(house), house.deeds), (30, 30))
        self.refused(TooMany("thing"), house.keep_craft, "toomuch", SMALL)
        self.refused(TooMany("thing"), house.keep_act, "toomuch", "coin", coin_act())
        self.refused(TooMany("thing"), house.keep_plot, "toomuch", "coin", coin_plot())
        # All else comes first.
        self.refused(Unlike("craft"), house.keep_act, "toomuch", "coin", NODS)
        self.refused(Unknown("none"), house.keep_act, "toomuch", "none", NODS)
        self.refused(Twice("moreaa"), house.keep_craft, "moreaa", SMALL)
        self.refused(BadName("too much"), house.keep_craft, "too much", SMALL)
        # What is struck makes room.
        house.strike("moreaa")
        house.keep_act("nods", "moreab", NODS)
        self.assertEqual((len(house), house.deeds, list(house)[-1]), (30, 32, "nods"))
        self.refused(TooMany("thing"), house.keep_craft, "moreaa", SMALL)

    def test_strike(self):
        self.house.strike("again")
        self.assertEqual((list(self.house), self.house.deeds), (["coin", "hands"], 4))
        self.house.keep_act("again", "coin", coin_act())
        self.assertEqual((list(self.house), self.house.deeds), (["coin", "hands", "again"], 5))
        for name in ("hands", "again", "coin"):
            self.house.strike(name)
        self.assertEqual((list(self.house), len(self.house), self.house.deeds), ([], 0, 8))
        self.refused(Unknown("coin"), self.house.strike, "coin")

    def test_errors_of_striking_in_their_order(self):
        for name in NO_NAMES:
            self.refused(BadName(name), self.house.strike, name)
        for name in ("hand", "pass", "none"):
            self.refused(Unknown(name), self.house.strike, name)
        # The first one that needs it.
        self.refused(InUse("again"), self.house.strike, "coin")
        self.house.strike("again")
        self.refused(InUse("hands"), self.house.strike, "coin")
        self.house.keep_act("again", "coin", coin_act())
        self.refused(InUse("hands"), self.house.strike, "coin")
        self.house.strike("hands")
        self.refused(InUse("again"), self.house.strike, "coin")
        self.assertEqual(self.house.deeds, 6)

    def test_only_the_craft_that_is_named_is_in_use(self):
        self.house.keep_craft("same", coin_craft())
        self.house.strike("same")
        self.assertEqual(list(self.house), ["coin", "again", "hands"])
        # A craft may have the name that a struck act has had.
        self.house.strike("again")
        self.house.keep_craft("again", coin_craft())
        self.house.keep_act("act", "again", coin_act())
        self.refused(InUse("act"), self.house.strike, "again")
        self.assertEqual(self.house.craft_of("act"), "again")

    def test_undo_and_redo(self):
        before = things_in(self.house)
        self.house.undo()
        self.assertEqual((list(self.house), self.house.deeds), (["coin", "again"], 2))
        self.house.undo()
        self.house.undo()
        self.assertEqual((len(self.house), self.house.deeds), (0, 0))
        self.refused(NoDeed(), self.house.undo)
        for names in (["coin"], ["coin", "again"], ["coin", "again", "hands"]):
            self.house.redo()
            self.assertEqual((list(self.house), self.house.deeds), (names, len(names)))
        self.refused(NoDeed(), self.house.redo)
        self.assertEqual(things_in(self.house), before)

    def test_a_struck_thing_comes_back_to_its_place(self):
        self.house.strike("again")
        self.house.keep_craft("small", SMALL)
        self.house.undo()
        self.house.undo()
        self.assertEqual((list(self.house), self.house.deeds), (["coin", "again", "hands"], 3))
        self.assertEqual(self.house["again"], coin_act())
        self.house.redo()
        self.assertEqual(list(self.house), ["coin", "hands"])
        self.house.redo()
        self.assertEqual(list(self.house), ["coin", "hands", "small"])

    def test_what_is_done_anew_makes_the_undone_be_forgotten(self):
        self.house.undo()
        self.house.keep_craft("small", SMALL)
        self.refused(NoDeed(), self.house.redo)
        self.house.undo()
        self.house.undo()
        self.house.strike("coin")
        self.refused(NoDeed(), self.house.redo)
        self.assertEqual((len(self.house), self.house.deeds), (0, 2))
        self.house.undo()
        self.assertEqual(list(self.house), ["coin"])

    def test_what_was_refused_is_not_done_anew(self):
        self.house.undo()
        self.refused(Twice("coin"), self.house.keep_craft, "coin", SMALL)
        self.refused(InUse("again"), self.house.strike, "coin")
        self.refused(Unlike("craft"), self.house.keep_act, "nods", "coin", NODS)
        self.house.redo()
        self.assertEqual(list(self.house), ["coin", "again", "hands"])

    def test_an_undoing_that_is_no_deed(self):
        # To undo is no deed that could itself be undone.
        self.house.undo()
        self.house.undo()
        self.house.redo()
        self.house.undo()
        self.assertEqual(list(self.house), ["coin"])

    def test_copies(self):
        self.house.undo()
        other = self.house.copy()
        self.assertIsInstance(other, House)
        self.assertIs(other == self.house, True)
        self.assertEqual(things_in(other), things_in(self.house))
        # What is undone is copied, too.
        other.redo()
        self.assertEqual((list(other), list(self.house)), (["coin", "again", "hands"], ["coin", "again"]))
        other.strike("again")
        other.keep_craft("small", SMALL)
        self.assertEqual((list(self.house), self.house.deeds), (["coin", "again"], 2))
        self.house.redo()
        self.assertEqual(list(self.house), ["coin", "again", "hands"])
        third = self.house.copy()
        self.house.undo()
        self.house.undo()
        self.house.keep_craft("small", SMALL)
        self.assertEqual((list(third), third.deeds), (["coin", "again", "hands"], 3))
        self.refused(NoDeed(), third.redo)

    def test_equal(self):
        self.assertIs(self.house == coin_house(), True)
        self.assertEqual(House(), House())
        other = coin_house()
        other.undo()
        self.assertNotEqual(self.house, other)
        # What is undone does not count.
        self.house.undo()
        self.assertEqual(self.house, other)
        self.house.keep_craft("small", SMALL)
        self.house.undo()
        self.assertEqual(self.house, other)
        for thing in (None, 0, (), "coin", coin_craft(), list(other), things_in(other)):
            self.assertIs(other == thing, False)

    def test_equal_deeds_not_equal_things(self):
        # The same things are kept, but they came there by other deeds.
        other = coin_house()
        other.keep_craft("small", SMALL)
        other.strike("small")
        self.assertEqual(things_in(other), things_in(self.house))
        self.assertNotEqual(other, self.house)
        first, second = House(), House()
        for house, names in ((first, ("one", "two")), (second, ("two", "one"))):
            for name in names:
                house.keep_craft(name, SMALL)
        self.assertNotEqual(first, second)
        first, second = House(), House()
        first.keep_craft("coin", coin_craft())
        second.keep_craft("coin", coin_craft().without("keep"))
        self.assertNotEqual(first, second)
        # An act and a plot of other crafts, by their names.
        first, second = coin_house(), coin_house()
        for house, of in ((first, "one"), (second, "two")):
            house.keep_craft("one", coin_craft())
            house.keep_craft("two", coin_craft())
            house.keep_act("act", of, coin_act())
        self.assertNotEqual(first, second)
        for house in (first, second):
            house.undo()
        self.assertEqual(first, second)

    def test_what_is_gone_through_may_be_changed_meanwhile(self):
        for name in list(self.house)[::-1]:
            self.house.strike(name)
        self.assertEqual(len(self.house), 0)

    def test_many_deeds(self):
        told = set()
        for seed in range(60):
            rng = random.Random(seed)
            house, done, undone = House(), [], []
            for _ in range(60):
                told.add(self.one(rng, house, done, undone))
                self.assertEqual((house.deeds, things_in(house)), (len(done), self.after(done)))
        self.assertEqual(told, {"add", "strike", "undo", "redo", "no"})

    def one(self, rng, house, done, undone):
        """Does something, here and there; tells what."""
        what = rng.choice(("add", "add", "strike", "undo", "undo", "redo"))
        if what in ("undo", "redo"):
            source, goal = (done, undone) if what == "undo" else (undone, done)
            if not source:
                self.refused(NoDeed(), house.undo if what == "undo" else house.redo)
                return "no"
            (house.undo if what == "undo" else house.redo)()
            goal.append(source.pop())
            return what
        name, of = rng.choice("abcdef"), rng.choice("abcdef")
        deed = (what, name, of, rng.choice(("craft", "act", "plot")))
        try:
            if what == "strike":
                house.strike(name)
            elif deed[3] == "craft":
                house.keep_craft(name, coin_craft())
            elif deed[3] == "act":
                house.keep_act(name, of, coin_act())
            else:
                house.keep_plot(name, of, coin_plot())
        except (Twice, Unknown, InUse):
            return "no"
        done.append(deed)
        undone.clear()
        return what

    def after(self, done):
        """The things that are kept when these deeds have been done."""
        things = []
        for what, name, of, kind in done:
            if what == "strike":
                things = [thing for thing in things if thing[0] != name]
            else:
                made = {"craft": coin_craft, "act": coin_act, "plot": coin_plot}[kind]()
                things.append((name, None if kind == "craft" else of, made))
        return things
