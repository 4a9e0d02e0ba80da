import inspect

from shownempty.errors import BadStatement, TooLong
from shownempty.scripts import Script
from tests.helpers import NO_INTEGERS, NO_STRINGS, NO_TUPLES, Case, EqualToAll, as_lists, coin_act, coin_craft, spoil
from tests.scripthelp import BACK, DO, KEEP, LOAD, OPEN, STOP, nested, some_bodies

EITHER = ("either", (KEEP, ("again", (OPEN,))), (BACK,))
PEEK = ("peek", 2, "a", (LOAD, EITHER), (STOP, DO))
BODY = (DO, PEEK, ("again", ()), STOP)
# In the order in which they are written, each ahead of those in its bodies.
STATEMENTS = (DO, PEEK, LOAD, EITHER, KEEP, ("again", (OPEN,)), OPEN, BACK, STOP, DO, ("again", ()), STOP)


class TestMade(Case):

    def setUp(self):
        self.craft = coin_craft()

    def test_attributes(self):
        script = Script(self.craft, BODY)
        self.assertIs(script.craft, self.craft)
        self.assertEqual(script.body, BODY)
        self.assertEqual(Script(body=BODY, craft=self.craft), script)

    def test_lists_are_kept_as_tuples(self):
        body = as_lists(BODY)
        script = Script(self.craft, body)
        spoil(body)
        self.assertEqual((script.body, tuple(script.statements())), (BODY, STATEMENTS))
        self.assert_plain(script.body)
        self.assert_plain(tuple(script.statements()))
        self.assertEqual(Script(self.craft, [["again", [[]][0]]]).body, (("again", ()),))

    def test_without_statements(self):
        for body in ((), []):
            script = Script(self.craft, body)
            self.assertEqual((len(script), script.body, list(script.statements())), (0, (), []))

    def test_no_tuples(self):
        for body in NO_TUPLES:
            self.refused(BadStatement(-1), Script, self.craft, body)


class TestLookedAt(Case):

    def test_length(self):
        self.assertEqual(len(Script(coin_craft(), BODY)), 12)

    def test_statements(self):
        script = Script(coin_craft(), BODY)
        self.assertTrue(inspect.isgenerator(script.statements()))
        self.assertEqual(tuple(script.statements()), STATEMENTS)
        self.assertEqual(tuple(script.statements()), STATEMENTS)

    def test_equal(self):
        script = Script(coin_craft(), BODY)
        self.assertIs(script == Script(coin_craft(), as_lists(BODY)), True)
        self.assertIs(script != Script(coin_craft(), BODY), False)
        self.assertIs(script == Script(coin_craft(), BODY[:3]), False)
        body = (("again", (DO, KEEP)),)
        self.assertIs(Script(coin_craft(), body) == Script(coin_craft(), (("again", (DO,)), KEEP)), False)
        less = coin_craft().without("load")
        self.assertIs(Script(less, body) == Script(coin_craft(), body), False)

    def test_equal_with_other_kinds(self):
        script = Script(coin_craft(), BODY)
        for thing in (None, 0, "", BODY, script.craft, coin_act(), EqualToAll()):
            self.assertIs(script == thing, False)


class TestForms(Case):

    def setUp(self):
        self.craft = coin_craft()

    def good(self, *body):
        self.assertEqual(Script(self.craft, body).body, body)

    def bad(self, statement):
        """The statement is bad wherever it stands."""
        self.refused(BadStatement(0), Script, self.craft, (statement, DO))
        self.refused(BadStatement(1), Script, self.craft, (DO, statement, statement))
        self.refused(BadStatement(3), Script, self.craft, (("either", (DO,), (("again", (statement,)),)), STOP))
        self.refused(BadStatement(1), Script, self.craft, [["peek", 0, "a", [], [statement]]])

    def test_things_that_are_no_statements(self):
        others = ((), ("end",), ("ask", 0, 0), ("go", 1), ("glance", 0, "a", 1), ("or",), ("else",), ("",), (None,), (1,),
                  ((),))
        for thing in NO_TUPLES + others + (["again"], (["stop"],), ("Stop",)):
            self.bad(thing)

    def test_first_words(self):
        for word in NO_STRINGS + ("", "ask", "end", "Do", "ands"):
            for rest in (("pass", ""), ((), ()), ((),), (0, "a", (), ()), ()):
                self.bad((word,) + rest)

    def test_do(self):
        self.good(DO, KEEP, OPEN, LOAD, BACK)
        for gesture in NO_STRINGS + ("", "keep", "opens"):
            self.bad(("do", gesture, ""))
        for manner in NO_STRINGS + ("load", "pass", "-"):
            self.bad(("do", "pass", manner))
        for thing in (("do",), ("do", "pass"), ("do", "pass", "", "")):
            self.bad(thing)

    def test_either(self):
        self.good(("either", (), ()), ("either", (DO,), ()), ("either", (), (DO,)))
        for body in NO_TUPLES:
            self.bad(("either", body, ()))
            self.bad(("either", (), body))
        for thing in (("either",), ("either", ()), ("either", (), (), ())):
            self.bad(thing)

    def test_again(self):
        self.good(("again", ()), ("again", (DO, DO)))
        for body in NO_TUPLES:
            self.bad(("again", body))
        for thing in (("again",), ("again", (), ())):
            self.bad(thing)

    def test_peek(self):
        for place in range(3):
            self.good(("peek", place, "z", (), ()), ("peek", place, "a", (DO,), (STOP,)))
        for place in NO_INTEGERS + (-1, 3, 10 ** 39):
            self.bad(("peek", place, "a", (), ()))
        for kind in NO_STRINGS + ("", "ab", "A", "*", "~", "-"):
            self.bad(("peek", 0, kind, (), ()))
        for body in NO_TUPLES:
            self.bad(("peek", 0, "a", body, ()))
            self.bad(("peek", 0, "a", (), body))
        for thing in (("peek",), ("peek", 0, "a"), ("peek", 0, "a", ()), ("peek", 0, "a", (), (), ())):
            self.bad(thing)

    def test_stop(self):
        self.good(STOP, STOP, DO)
        self.bad(("stop", ()))
        self.bad(("stop", "stop"))


class TestNumbers(Case):

    def setUp(self):
        self.craft = coin_craft()

    def test_each_ahead_of_those_in_its_bodies(self):
        for k in range(len(STATEMENTS)):
            body, number = spoiled(BODY, k, 0)
            self.assertGreater(number, k)
            self.refused(BadStatement(k), Script, self.craft, body)

    def test_the_first_bad_one_is_told(self):
        self.refused(BadStatement(1), Script, self.craft, (("again", ("x",)), "x"))
        self.refused(BadStatement(0), Script, self.craft, (("either", ("x",), None), "x"))
        self.refused(BadStatement(2), Script, self.craft, (("either", (DO,), ("x",)), "x"))

    def test_within_5_and_within_6_bodies(self):
        self.assertEqual(len(Script(self.craft, nested(5, (DO, STOP)))), 7)
        self.refused(BadStatement(6), Script, self.craft, nested(6, (DO, STOP)))
        self.refused(BadStatement(8), Script, self.craft, (DO,) + nested(5, (DO, ("again", (DO,)))))
        self.assertEqual(len(Script(self.craft, nested(6))), 6)
        self.refused(BadStatement(6), Script, self.craft, nested(7))

    def test_bodies_of_each_kind_count(self):
        for wrap in (lambda body: ("either", body, ()), lambda body: ("either", (), body),
                     lambda body: ("peek", 0, "a", body, ()), lambda body: ("peek", 0, "a", (), body)):
            body = (DO,)
            for _ in range(5):
                body = (wrap(body),)
            self.assertEqual(len(Script(self.craft, body)), 6)
            self.refused(BadStatement(6), Script, self.craft, (wrap(body),))

    def test_too_deep_goes_by_the_numbers_too(self):
        self.refused(BadStatement(6), Script, self.craft, nested(6, (DO,)) + ("x",))
        self.refused(BadStatement(0), Script, self.craft, ("x",) + nested(6, (DO,)))
        self.refused(BadStatement(6), Script, self.craft, nested(14, ("x",)))

    def test_40_and_41(self):
        self.assertEqual(len(Script(self.craft, (DO,) * 40)), 40)
        self.refused(TooLong(41), Script, self.craft, (DO,) * 41)
        self.assertEqual(len(Script(self.craft, (("again", (DO,) * 19),) * 2)), 40)
        self.refused(TooLong(42), Script, self.craft, (("again", (DO,) * 20),) * 2)
        self.refused(TooLong(300), Script, self.craft, [list(DO)] * 300)

    def test_a_bad_statement_goes_ahead_of_too_long(self):
        self.refused(BadStatement(41), Script, self.craft, (DO,) * 41 + ("x",))
        self.refused(BadStatement(46), Script, self.craft, (DO,) * 40 + nested(6, (DO,)))

    def test_statements_of_many_scripts(self):
        for body in some_bodies(200):
            told = list(written(body))
            if len(told) <= 40:
                script = Script(self.craft, body)
                self.assertEqual((list(script.statements()), len(script)), (told, len(told)))
            else:
                self.refused(TooLong(len(told)), Script, self.craft, body)


def written(body):
    """All statements of a body, in the order in which they are written."""
    for statement in body:
        yield statement
        for part in statement[1:]:
            if isinstance(part, tuple):
                yield from written(part)


def spoiled(body, number, ahead):
    """The body with its statement of this number spoiled, and the number of statements up to its end."""
    told = []
    for statement in body:
        at, ahead = ahead, ahead + 1
        parts = []
        for part in statement:
            if isinstance(part, tuple):
                part, ahead = spoiled(part, number, ahead)
            parts.append(part)
        told.append(("x",) + tuple(parts) if at == number else tuple(parts))
    return tuple(told), ahead
