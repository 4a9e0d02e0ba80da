import itertools

from shownempty.actpairs import ActPair
from shownempty.acts import Act
from shownempty.craft import Craft
from shownempty.errors import BadWorld, TooMany
from shownempty.machines import Machine
from shownempty.needed import needed_lots
from tests.acthelp import some_plays
from tests.helpers import Case, coin_act, coin_craft
from tests.test_standings import BAD_WORLDS, many_standings

END = ("end",)
COIN = ("a", "", "")
BOTH = ("a", "", "a")
KEEP = ("do", "pass", "keep")
LOAD = ("do", "open", "load")
OPEN = ("do", "open", "")


def honest_but(act, lot):
    return Act(act.craft, [("do", cue[1], "") if k in act.secrets and k not in lot else cue for k, cue in enumerate(act)])


def needed_of(act, start):
    """The least needed lots, by comparing all acts with the act."""
    found = []
    for number in range(len(act.secrets) + 1):
        for lot in itertools.combinations(act.secrets, number):
            if not any(set(small) <= set(lot) for small in found) and ActPair(act, start, honest_but(act, lot), start):
                found.append(lot)
    return tuple(found)


def sleights(number, last=END):
    """An act with so many sleights, none of which is ever seen."""
    return Act(coin_craft(), [KEEP] * number + [last])


class TestNeededLots(Case):

    def test_needed(self):
        self.assertEqual(needed_lots(coin_act(), COIN), ((0,),))
        self.assertEqual(needed_lots(coin_act(), list(COIN)), ((0,),))
        # The first one is seen when the hand is opened, the second one never.
        act = Act(coin_craft(), (KEEP, OPEN, KEEP, END))
        self.assertEqual(needed_lots(act, COIN), ((0,),))
        self.assert_plain(needed_lots(act, COIN))

    def test_none_is_needed(self):
        self.assertEqual(needed_lots(Act(coin_craft(), (KEEP, END)), COIN), ((),))
        self.assertEqual(needed_lots(Act(coin_craft(), (OPEN, END)), COIN), ((),))
        self.assertEqual(needed_lots(Act(coin_craft(), (END,)), COIN), ((),))

    def test_an_honest_stroke_that_cannot_be_done_is_seen(self):
        self.assertEqual(needed_lots(Act(coin_craft(), (KEEP, END)), ("", "", "")), ((0,),))
        self.assertEqual(needed_lots(Act(coin_craft(), (KEEP, KEEP, END)), COIN), ((0,), (1,)))
        self.assertEqual(needed_lots(Act(coin_craft(), (KEEP, KEEP, KEEP, END)), COIN), ((0, 1), (0, 2), (1, 2)))

    def test_two_that_belong_together(self):
        # What the one does the other undoes: neither alone is of any use, and none is needed.
        craft = Craft(2, (("nod", (), ()), ("look", (), (1,))), (("away", "nod", (("a", 0, 1),), 1, ()),
                                                                ("back", "nod", (("a", 1, 0),), 1, ())))
        cues = (("do", "nod", "away"), ("do", "nod", "back"), ("do", "look", ""), END)
        self.assertEqual(needed_lots(Act(craft, cues), ("a", "")), ((),))
        # A lot that has a needed one within it is none of the least ones, though it is needed again with more members.
        cues = (("do", "nod", "away"), ("do", "nod", "away"), ("do", "nod", "back"), ("do", "look", ""), END)
        self.assertEqual(needed_lots(Act(craft, cues), ("aa", "")), ((0,), (1,)))
        cues = (("do", "nod", "away"), ("do", "look", ""), ("do", "nod", "back"), ("do", "look", ""), END)
        self.assertEqual(needed_lots(Act(craft, cues), ("a", "")), ((0, 2),))

    def test_the_numbers_are_those_of_the_cues(self):
        act = Act(coin_craft(), (("go", 2), END, ("ask", 3, 3), OPEN, KEEP, OPEN, LOAD, END))
        self.assertEqual(needed_lots(act, BOTH), ((4, 6),))

    def test_6_and_7_strokes_with_a_sleight(self):
        self.assertEqual(needed_lots(sleights(6), ("aaaaaa", "", "")), ((),))
        lots = needed_lots(sleights(6), ("aaa", "", ""))
        self.assertEqual(lots, tuple(itertools.combinations(range(6), 3)))
        self.refused(TooMany("sleight"), needed_lots, sleights(7), COIN)
        # Honest strokes are not counted, cues that are never come to are.
        self.assertEqual(needed_lots(Act(coin_craft(), (OPEN,) * 9 + sleights(6).cues), ("aaaaaa", "", "")), ((),))
        self.refused(TooMany("sleight"), needed_lots, Act(coin_craft(), (END,) + sleights(7).cues), COIN)

    def test_errors_in_their_order(self):
        act, start = many_standings(11)
        self.refused(TooMany("standing"), needed_lots, act, start)
        self.assertEqual(needed_lots(*many_standings(10)), ((),))
        for world in BAD_WORLDS:
            self.refused(BadWorld(world), needed_lots, sleights(7), world)
        cues = tuple(cue if cue != ("do", "nod", "") or k >= 7 else ("do", "nod", "idle") for k, cue in enumerate(act))
        craft = Craft(2, act.craft.gestures, (("idle", "nod", (), 1, ()),))
        self.refused(TooMany("sleight"), needed_lots, Act(craft, cues), start)

    def test_an_act_that_is_compared_has_too_many(self):
        # With the sleight nothing goes over; without it all that the guests ask for does.
        act, start = many_standings(11)
        craft = Craft(2, act.craft.gestures, (("hold", "left", (), 1, ()), ("stay", "right", (), 1, ())))
        held = {"left": "hold", "right": "stay"}
        cues = [cue if cue[0] != "do" else cue[:2] + (held.get(cue[1], ""),) for cue in act]
        self.assertEqual(len(Machine(Act(craft, cues), start)), 2)
        self.refused(TooMany("standing"), needed_lots, Act(craft, cues), start)
        # From a world without things there are few, and both sleights are needed.
        self.assertEqual(needed_lots(Act(craft, cues), ("", "")), (tuple(Act(craft, cues).secrets),))

    def test_as_many_pairs_as_an_act_pair_cannot_have(self):
        # The three things go round by the sleight, all four by the gesture; nobody ever sees them.
        craft = Craft(4, (("turn", (("~", 0, 1), ("~", 1, 2), ("~", 2, 3)), ()),),
                      (("slip", "turn", (("~", 0, 1), ("~", 1, 2)), 1, ()),))
        asks = [("ask", k + 1, k + 1) for k in range(1, 56)] + [("ask", 0, 0)]
        act, start = Act(craft, [("do", "turn", "slip")] + asks), ("a", "b", "c", "d")
        self.refused(TooMany("pair"), ActPair, act, start, honest_but(act, ()), start)
        self.assertEqual(needed_lots(act, start), ((),))

    def test_many_acts(self):
        told = set()
        for act, start, _ in some_plays(800, 95):
            found = needed_lots(act, start)
            self.assertEqual(found, needed_of(act, start))
            told.add(tuple(len(lot) for lot in found))
        self.assertLessEqual({(0,), (1,), (2,)}, told)
