import itertools

from shownempty.acts import Act
from shownempty.classes import Classes, settled
from shownempty.craft import Craft
from shownempty.errors import BadHeld, BadKnown, BadLength, TooMany
from shownempty.fillings import Fillings
from shownempty.plays import show_of
from shownempty.worlds import all_worlds
from tests.acthelp import rich_plays, some_guest
from tests.helpers import NO_INTEGERS, NO_STRINGS, NO_TUPLES, Case, as_lists, coin_act, coin_craft, spoil
from tests.test_fillings import many_fillings
from tests.test_showings import LOOKING, rows_of_number, tree_of_asks
from tests.test_standings import BAD_WORLDS

END = ("end",)
COIN = ("a", "", "")
PASSED = ("", "a", "")
FULL, EMPTY = ((("open", ("a",)),), "end"), ((("open", ("",)),), "end")
OPENED = Act(coin_craft(), (("do", "open", ""), END))


def classes_of(fillings, rows):
    """The classes, by comparing each filling with the first ones of the earlier classes."""
    classes = []
    for filling in fillings:
        for members in classes:
            if all(fillings.show(filling, row) == fillings.show(members[0], row) for row in rows):
                members.append(filling)
                break
        else:
            classes.append([filling])
    return classes


def depth_of(fillings, classes, rows):
    """The depth of some classes as the document tells it."""
    if len(classes) <= 1:
        return 0
    return 1 + min([max([depth_of(fillings, part, rows) for _, part in parts_of(fillings, classes, row)])
                    for row in rows if len(parts_of(fillings, classes, row)) > 1])


def parts_of(fillings, classes, row):
    parts = []
    for members in classes:
        shown = fillings.show(members[0], row)
        for other, part in parts:
            if other == shown:
                part.append(members)
                break
        else:
            parts.append((shown, [members]))
    return parts


def tree_of(fillings, classes, rows):
    """The tree of some classes as the document tells it."""
    if len(classes) <= 1:
        return ()
    for row in rows:
        parts = parts_of(fillings, classes, row)
        if len(parts) > 1 and depth_of(fillings, classes, rows) == 1 + max(
                [depth_of(fillings, part, rows) for _, part in parts]):
            return (row, tuple([(shown, tree_of(fillings, part, rows)) for shown, part in parts]))


def many_asks(asks, worlds, more=False):
    """An act that asks so often, and so many held worlds; one of them, if it is told so, is asked once more."""
    craft = Craft(4, (("nod", (), ()),))
    cues = [("ask", k + 1, k + 1) for k in range(asks)] + [("glance", 0, "z", asks + 2), END, ("ask", asks + 1, asks + 1)]
    held = list(all_worlds(4, "aabb"))[:worlds]
    return Act(craft, cues), sorted(held[1:] + [("z", "", "", "")] if more else held), ()


class TestClasses(Case):

    def test_two_classes(self):
        classes = Classes(OPENED, (PASSED, COIN), (), 0)
        self.assertEqual(classes.table, (((PASSED, ("",)),), ((COIN, ("",)),)))
        self.assertEqual((classes.ahead, classes.depth), (("",), 1))
        self.assertEqual(classes.tree, ("", ((FULL, ()), (EMPTY, ()))))

    def test_stuck_and_not(self):
        classes = Classes(OPENED, (PASSED, COIN), ("keep", "load"), 0)
        self.assertEqual(classes.table, (((PASSED, ("",)),), ((PASSED, ("load",)), (COIN, ("load",))), ((COIN, ("",)),)))
        self.assertEqual((len(classes), list(classes)), (3, list(classes.table)))
        self.assertEqual(classes.tree[1], ((FULL, ()), (((), "stuck"), ()), (EMPTY, ())))
        self.assert_plain((classes.table, classes.ahead, classes.tree))

    def test_one_class(self):
        for length in range(5):
            classes = Classes(Act(coin_craft(), (END,)), (PASSED, COIN), (), length)
            self.assertEqual((classes.table, classes.ahead, classes.depth, classes.tree),
                             ((((PASSED, ()), (COIN, ())),), (), 0, ()))

    def test_showing_by_showing_can_do_with_fewer(self):
        # Three rows are needed if they are told ahead; the first one tells which of the others is worth while.
        craft = Craft(3, tuple([(name, (), (place,)) for place, name in enumerate(("left", "right", "third"))]))
        act = Act(craft, (("ask", 1, 4), ("do", "left", ""), ("go", 3), END, ("ask", 5, 7), ("do", "right", ""), END,
                          ("do", "third", ""), END))
        held = (("", "a", ""), ("", "ab", ""), ("b", "", ""), ("b", "", "a"))
        classes = Classes(act, held, (), 2)
        self.assertEqual((len(classes), classes.ahead, classes.depth), (4, ("10", "11"), 2))
        held = (("", "", "a"), ("", "", "b"), ("a", "a", ""), ("a", "b", ""), ("b", "", "c"), ("b", "c", "c"))
        classes = Classes(act, held, (), 2)
        self.assertEqual((classes.ahead, classes.depth), (("10", "11"), 2))
        self.assertEqual(classes.tree[0], "00")

    def test_a_tree(self):
        held = (("", "", ""), ("", "", "a"), ("", "a", ""), ("a", "", ""))
        classes = Classes(LOOKING, held, (), 2)
        self.assertEqual((len(classes), classes.ahead, classes.depth), (4, ("00", "10", "11"), 3))
        row, branches = classes.tree
        self.assertEqual((row, [shown[0][1] for shown, _ in branches]), ("00", [("left", ("",)), ("left", ("a",))]))
        self.assertEqual((branches[0][1][0], branches[1][1]), ("10", ()))

    def test_the_lengths(self):
        held = (("", "", ""), ("", "", "a"), ("", "a", ""), ("a", "", ""))
        self.assertEqual([len(Classes(LOOKING, held, (), length)) for length in range(5)], [1, 2, 4, 4, 4])
        self.assertEqual([Classes(LOOKING, held, (), length).ahead for length in (3, 4)],
                         [("000", "100", "110"), ("0000", "1000", "1100")])

    def test_attributes(self):
        act, held, known = coin_act(), as_lists((PASSED, COIN)), ["keep"]
        classes = Classes(length=1, known=known, held=held, act=act)
        spoil(held)
        spoil(known)
        self.assertIs(classes.act, act)
        self.assertEqual((classes.held, classes.known, classes.length), ((PASSED, COIN), ("keep",), 1))

    def test_many_acts(self):
        told = set()
        for act, start, rng in rich_plays(250, 100):
            guest = some_guest(rng, act.craft, start)
            length = rng.choice((0, 1, 1, 2, 3))
            rows = rows_of_number(length)
            try:
                fillings = Fillings(act, guest.held, guest.known)
                classes = Classes(act, guest.held, guest.known, length)
            except TooMany:
                continue
            expected = classes_of(fillings, rows)
            self.assertEqual(classes.table, tuple([tuple(members) for members in expected]))
            if len(expected) < 7 and len(rows) < 8:
                self.assertEqual(classes.depth, depth_of(fillings, expected, rows))
                self.assertEqual(classes.tree, tree_of(fillings, expected, rows))
                self.assertEqual(classes.ahead, self.ahead(fillings, expected, rows))
            told.add((len(classes.ahead), classes.depth))
        self.assertLessEqual({(0, 0), (1, 1), (2, 2)}, told)

    def ahead(self, fillings, classes, rows):
        for number in range(len(rows) + 1):
            for lot in itertools.combinations(rows, number):
                if len({tuple([fillings.show(members[0], row) for row in lot]) for members in classes}) == len(classes):
                    return lot

    def test_12_and_13(self):
        act = Act(Craft(2, (("show", (), (0,)),)), (("do", "show", ""), END))
        held = [(letter, "") for letter in "abcdefghijklm"]
        classes = Classes(act, held[:12], (), 0)
        self.assertEqual((len(classes), classes.ahead, classes.depth, len(classes.tree[1])), (12, ("",), 1, 12))
        self.refused(TooMany("class"), Classes, act, held, (), 0)
        # Eight strokes, each of which tells of its own whether it was a sleight.
        act, start, known = tree_of_asks()
        self.assertEqual(len(Classes(act, (start,), known, 2)), 1)
        self.refused(TooMany("class"), Classes, act, (start,), known, 3)

    def test_errors_in_their_order(self):
        for held in NO_TUPLES + ((), (COIN,) * 61):
            self.refused(BadHeld(-1), Classes, coin_act(), held, None, None)
            self.refused(BadHeld(-1), settled, coin_act(), held, None)
        for world in BAD_WORLDS + (COIN, PASSED):
            self.refused(BadHeld(1), Classes, coin_act(), (COIN, world, None), None, None)
            self.refused(BadHeld(1), settled, coin_act(), (COIN, world, None), None)
        for known in NO_TUPLES:
            self.refused(BadKnown(-1), Classes, coin_act(), (COIN,), known, None)
            self.refused(BadKnown(-1), settled, coin_act(), (COIN,), known)
        for name in NO_STRINGS + ("", "pass", "keep"):
            self.refused(BadKnown(1), Classes, coin_act(), (COIN,), ("keep", name, None), None)
            self.refused(BadKnown(1), settled, coin_act(), (COIN,), ("keep", name, None))
        act, held, known = many_fillings(43, 6)
        for length in NO_INTEGERS + (-1, 5):
            self.refused(BadLength(length), Classes, act, held, known, length)
        self.refused(TooMany("filling"), Classes, act, held, known, 4)
        self.refused(TooMany("filling"), settled, act, held, known)
        self.assertEqual(len(Classes(*many_fillings(60, 4), 4)), 1)


class TestSettled(Case):

    def test_settled(self):
        self.assertEqual(settled(OPENED, (PASSED, COIN), ()), 0)
        self.assertEqual(settled(coin_act(), (COIN,), ("keep",)), 1)
        self.assertEqual(settled(LOOKING, (("", "", "a"), ("", "a", "")), ()), 2)
        self.assertEqual(settled(LOOKING, (("", "", "a"), ("a", "", "")), ()), 1)
        self.assertEqual(settled(LOOKING, (("", "", ""), ("a", "", "")), ()), 1)
        self.assertEqual(settled(LOOKING, (("", "", ""),), ()), 0)

    def test_what_is_parted_late(self):
        # A coin goes over with each answer; only when none is left, it can be told that there was one more.
        craft = Craft(2, (("pass", (("a", 0, 1),), ()),))
        act = Act(craft, (("ask", 1, 1), ("do", "pass", ""), ("ask", 0, 0)))
        for many in range(1, 8):
            held = (("a" * (many - 1), ""), ("a" * many, ""))
            self.assertEqual(settled(act, held, ()), 2 * many - 1)
        self.assertEqual(settled(act, (("", ""), ("aaaaaa", ""), ("aaaaaaa", "")), ()), 13)

    def test_in_between_nothing_more_may_be_told(self):
        # Three worlds: the first two are parted by two answers, the last ones only by eight.
        craft = Craft(2, (("pass", (("a", 0, 1),), ()), ("turn", (("b", 0, 1),), ())))
        act = Act(craft, (("ask", 1, 3), ("do", "pass", ""), ("ask", 0, 0), ("do", "turn", ""), ("ask", 0, 0)))
        self.assertEqual(settled(act, (("aaaa", ""), ("aaaaa", ""), ("aaaab", "")), ()), 9)
        self.assertEqual(settled(act, (("aaaa", ""), ("aaaab", "")), ()), 1)
        self.assertEqual(settled(act, (("aaaa", ""), ("aaaaa", "")), ()), 9)

    def test_many_acts(self):
        told = set()
        for act, start, rng in rich_plays(200, 110):
            guest = some_guest(rng, act.craft, start)
            try:
                length = settled(act, guest.held, guest.known)
                fillings = Fillings(act, guest.held, guest.known)
            except TooMany:
                continue
            acts = [(fillings.filled(filling), filling[0]) for filling in fillings]
            numbers = [len({tuple([show_of(one, world, row) for row in rows_of_number(number)]) for one, world in acts})
                       for number in range(6)]
            if length < 5:
                self.assertEqual(numbers.index(numbers[-1]), length)
            else:
                self.assertLess(numbers[length - 1] if length < 6 else 0, len(acts))
            told.add(length)
        self.assertLessEqual({0, 1, 2}, told)

    def test_2000_and_2001(self):
        self.assertEqual(settled(*many_asks(50, 40)), 0)
        self.assertEqual(settled(*many_asks(49, 40, True)), 49)
        self.assertEqual(settled(*many_asks(57, 35)), 0)
        self.refused(TooMany("rest"), settled, *many_asks(50, 40, True))
        self.refused(TooMany("rest"), settled, *many_asks(50, 41))

    def test_far_too_many(self):
        craft = Craft(2, [("nod", (), ())] + [("p" + letter, ((letter, 0, 1),), ()) for letter in "abcdefg"])
        cues = []
        for k, letter in enumerate("abcdefg"):
            behind = (3 * k + 3) % 21
            cues.extend([("ask", 3 * k + 1, 3 * k + 2), ("do", "p" + letter, ""), ("ask", behind, behind)])
        self.refused(TooMany("rest"), settled, Act(craft, cues), (("abcdefg", ""), ("abcdefgh", "")), ())
