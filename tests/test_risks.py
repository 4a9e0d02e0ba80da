from shownempty.craft import Craft
from shownempty.errors import BadFail, NoSleight, Twice
from shownempty.risks import Risks
from tests.helpers import NO_INTEGERS, NO_STRINGS, NO_TUPLES, Case, as_lists, coin_craft, partly_lists, spoil

SLIP = ("keep", (("a", 0, 1),))
DROP = ("load", ())
NO_DEEDS = NO_TUPLES + (("a01",), (("a", 0),), (("a", 0, 0),), (("a", 0, 3),), (("A", 0, 1),), (("a", 0, 1),) * 4)
NO_DEEDS += tuple((("a", 0, place),) for place in NO_INTEGERS + (-1,))


class TestRisks(Case):

    def setUp(self):
        self.craft = coin_craft()
        self.risks = Risks(self.craft, (DROP, SLIP))

    def test_attributes(self):
        fails = as_lists((DROP, SLIP))
        risks = Risks(fails=fails, craft=self.craft)
        spoil(fails)
        self.assertIs(risks.craft, self.craft)
        self.assertEqual(risks.fails, (DROP, SLIP))
        self.assert_plain(risks.fails)
        self.assertEqual(Risks(self.craft, partly_lists((DROP, SLIP))).fails, (DROP, SLIP))

    def test_risky(self):
        self.assertEqual(self.risks.risky, ("keep", "load"))
        self.assertEqual(Risks(self.craft, ()).risky, ())
        self.assertEqual(Risks(self.craft, [DROP]).risky, ("load",))

    def test_fail_of(self):
        self.assertEqual(self.risks.fail_of("keep"), (("a", 0, 1),))
        self.assertEqual(self.risks.fail_of("load"), ())
        self.assert_plain(self.risks.fail_of("keep"))
        self.assertIsNone(Risks(self.craft, (SLIP,)).fail_of("load"))
        for name in NO_STRINGS + ("", "pass", "keeps"):
            self.refused(NoSleight(name), self.risks.fail_of, name)

    def test_practised(self):
        self.assertEqual(self.risks.practised("keep"), Risks(self.craft, (DROP,)))
        self.assertEqual(self.risks.practised("load", "keep", "load"), Risks(self.craft, ()))
        self.assertEqual(self.risks.practised(), self.risks)
        self.assertEqual(Risks(self.craft, (SLIP,)).practised("load"), Risks(self.craft, (SLIP,)))
        self.assertEqual(self.risks.fails, (DROP, SLIP))
        for name in NO_STRINGS + ("", "pass", "keeps"):
            self.refused(NoSleight(name), self.risks.practised, "load", name, "none")

    def test_equal(self):
        self.assertEqual(self.risks, Risks(coin_craft(), [DROP, SLIP]))
        self.assertIs(self.risks == Risks(self.craft, (DROP, SLIP)), True)
        for other in (Risks(self.craft, (SLIP, DROP)), Risks(self.craft, (DROP,)), None, 0, (), self.craft,
                      (self.craft, (DROP, SLIP))):
            self.assertIs(self.risks == other, False)
            self.assertIs(self.risks != other, True)
        self.assertNotEqual(Risks(self.craft, (SLIP,)), Risks(self.craft.without("load"), (SLIP,)))

    def test_bad_fails(self):
        for fails in NO_TUPLES:
            self.refused(BadFail(-1), Risks, self.craft, fails)
        bad = [(name, ()) for name in NO_STRINGS + ("", "pass", "keeps")] + [("load", deed) for deed in NO_DEEDS]
        for thing in list(NO_TUPLES) + bad + [(), ("load",), ("load", (), ()), [[], "load"]]:
            self.refused(BadFail(1), Risks, self.craft, (SLIP, thing, None))
            self.refused(BadFail(1), Risks, self.craft, [list(SLIP), thing])
        self.refused(BadFail(0), Risks, self.craft.without("keep"), (SLIP,))
        self.refused(BadFail(0), Risks, Craft(2, (("pass", (), ()),), (("keep", "pass", (), 1, ()),)),
                     (("keep", (("a", 0, 2),)),))

    def test_twice(self):
        self.refused(Twice("keep"), Risks, self.craft, (SLIP, DROP, ("keep", ()), DROP))
        self.refused(Twice("keep"), Risks, self.craft, (SLIP, list(SLIP)))
        self.refused(BadFail(2), Risks, self.craft, (SLIP, SLIP, None))

    def test_a_fail_can_be_the_deed_of_its_sleight(self):
        self.assertEqual(Risks(self.craft, (("keep", ()),)).fail_of("keep"), self.craft.deed_of("pass", "keep"))
