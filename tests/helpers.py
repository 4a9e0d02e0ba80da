"""What several tests use."""

import unittest

from shownempty.actlines import read_act
from shownempty.craftlines import read_craft

CRAFT_LINES = (
    "craft 3",
    "gesture pass a01 -",
    "gesture open - 1",
    "gesture reach - 0",
    "sleight keep pass - 2 0",
    "sleight load open a21 5 13",
)
ACT_LINES = (
    "do pass keep",
    "ask 2 0",
    "do open -",
    "end",
)


def coin_craft():
    """The craft of the document's example."""
    return read_craft(CRAFT_LINES)


def coin_act():
    """The act of the document's example."""
    return read_act(coin_craft(), ACT_LINES)


class EqualToAll:
    """A thing that says of itself that it equals everything."""

    def __eq__(self, other):
        return True

    def __hash__(self):
        return 0


# Things that are no string, integer, tuple or list; some cannot be hashed, one equals everything.
ODD_THINGS = (None, 1.5, b"a", {}, {"a": 1}, {"a"}, object(), EqualToAll(), iter(()))
NO_INTEGERS = ODD_THINGS + (True, False, "1", "", (), [1])
NO_STRINGS = ODD_THINGS + (True, False, 0, 1, (), ["a"], ("a", "b"))
NO_TUPLES = ODD_THINGS + (True, False, 0, "", "ab", "abc")

# Rows that have the form of no standing of an act with up to 60 cues whose size is 3.
NO_STANDINGS = NO_TUPLES + ((0, ("a", "")), (60, ("a", "", "")), (-1, ("a", "", "")), (0,), (0, ("a", "", ""), 0, 0), (),
                            ("a", "", ""), (0, ("ba", "", "")), [0, ["a", "", True]], (("a", "", ""), 0),
                            (0, ("aaaaa", "aaaa", "")), (0, "abc"), (0, None), "3a")
NO_STANDINGS += tuple((number, ("a", "", "")) for number in NO_INTEGERS)


class Case(unittest.TestCase):
    """A test case that also looks at what an error bears."""

    def refused(self, error, call, *args, **named):
        """The call raises just this error, an object with all that it bears; tells what was raised."""
        try:
            got = call(*args, **named)
        except type(error) as raised:
            self.assertIs(type(raised), type(error))
            self.assertEqual(list(vars(raised)), list(vars(error)))
            for name, worth in vars(error).items():
                self.assert_same(getattr(raised, name), worth)
            return raised
        self.fail(f"{type(error).__name__} was not raised, but {got!r} returned")

    def assert_same(self, got, expected):
        """Integers are to be integers; a thing that was passed is to be this very thing."""
        self.assertIs(type(got), type(expected))
        if got is not expected:
            self.assertEqual(got, expected)

    def judged(self, judge, table, result):
        """The judge says so of the table, also if all of it is passed as lists, and changes nothing."""
        for rows in (tuple(table), as_lists(table)):
            before = as_lists(rows)
            got = judge(rows)
            self.assertEqual((type(got), got), (type(result), result))
            self.assertEqual(as_lists(rows), before)

    def verdict(self, verdict, table):
        """Its truth, table, length and iteration agree; there are rows only if there is a table."""
        self.assertEqual(verdict.table, table)
        self.assertEqual((len(verdict), tuple(verdict)), (len(table or ()), table or ()))
        self.assertIn(bool(verdict), (True, False))
        if table is not None:
            self.assert_plain(table)

    def assert_plain(self, thing):
        """The thing is made of tuples, strings, integers and None alone."""
        if type(thing) is tuple:
            for part in thing:
                self.assert_plain(part)
        else:
            self.assertIn(type(thing), (str, int, type(None)))


def as_lists(thing):
    """The thing with lists in the place of its tuples, at every depth."""
    if isinstance(thing, (tuple, list)):
        return [as_lists(part) for part in thing]
    return thing


def partly_lists(thing, at=1):
    """The thing with lists in the place of every other one of its tuples, so that they stand side by side."""
    if isinstance(thing, (tuple, list)):
        parts = [partly_lists(part, at + k) for k, part in enumerate(thing)]
        return tuple(parts) if at % 2 else parts
    return thing


def spoil(thing):
    """Empties the lists in a thing, at every depth."""
    if isinstance(thing, list):
        for part in thing:
            spoil(part)
        thing.clear()
