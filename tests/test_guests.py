import itertools
import random

from shownempty.craft import Craft
from shownempty.errors import BadHeld, BadKnown, BadMost, BadSeen
from shownempty.guests import Guest
from shownempty.plays import Play
from shownempty.worlds import all_worlds
from tests.acthelp import some_guest, some_plays
from tests.helpers import NO_INTEGERS, NO_STRINGS, NO_TUPLES, Case, as_lists, coin_craft, spoil

COIN = ("a", "", "")
PASSED = ("", "a", "")
POCKET = ("", "", "a")
BOTH = ("a", "", "a")
PASS = ("pass", ())
EMPTY = ("open", ("",))
FULL = ("open", ("a",))
NO_SIGHTS = NO_TUPLES + ((), ("a", "a"), ("ba",), ("A",), (None,), (1,), (("a",),), (True,))
NO_EVENTS = NO_TUPLES[:-3] + ("", "01", "2", "pass", (), ("pass",), ("pass", (), ()), ("0",), ["1"], (PASS,))
NO_EVENTS += tuple((name, ()) for name in NO_STRINGS + ("", "keep", "passing")) + (("pass", ("",)), ("reach", ()))
NO_EVENTS += tuple(("open", sight) for sight in NO_SIGHTS)


def explanations(guest, seen):
    """All explanations of the seen things, tried out one by one, each with the world to which it leads."""
    strokes = [event for event in seen if not isinstance(event, str)]
    ways = [[""] + [manner for manner in guest.craft.manners_of(gesture) if manner in guest.known]
            for gesture, _ in strokes]
    for world in guest.held:
        for manners in itertools.product(*ways):
            behind = world
            for (gesture, sight), manner in zip(strokes, manners):
                done = behind and guest.craft.stroke(behind, gesture, manner)
                behind = done[0] if done and done[1] == sight else None
            if behind and len([manner for manner in manners if manner]) <= guest.most:
                yield (world, manners), behind


def mind_of(guest, seen):
    """The mind behind the seen things, by all their explanations."""
    least = {}
    for (_, manners), world in explanations(guest, seen):
        sleights = len([manner for manner in manners if manner])
        least[world] = min(sleights, least.get(world, 9))
    return tuple(sorted(least.items()))


def some_sights(number, seed):
    """Guests, and what they have seen of an act; sometimes one of the strokes has shown something else."""
    for act, start, rng in some_plays(number, seed):
        guest = some_guest(rng, act.craft, start)
        play = Play(act, start)
        while play.rest == "ask" and len(play) < 7:
            play = play + rng.choice("01")
        seen = list(play.events[:7])
        strokes = [k for k, event in enumerate(seen) if not isinstance(event, str) and event[1]]
        if strokes and rng.random() < 0.3:
            k = rng.choice(strokes)
            seen[k] = (seen[k][0], tuple([rng.choice(("", "a", "b", "ab")) for _ in seen[k][1]]))
        yield guest, tuple(seen)


class TestGuest(Case):

    def setUp(self):
        self.guest = Guest(coin_craft(), (PASSED, COIN), ("keep", "load"), 2)

    def test_beginning(self):
        self.assertEqual(self.guest.beginning, ((PASSED, 0), (COIN, 0)))
        self.assertEqual(self.guest.mind(()), self.guest.beginning)
        self.assert_plain(self.guest.beginning)

    def test_minds(self):
        guest = self.guest
        # Honestly passed, or kept; where it lay in the hand 1 it could only be kept.
        self.assertEqual(guest.mind((PASS,)), ((PASSED, 0), (COIN, 1)))
        self.assertEqual(guest.mind((PASS, EMPTY)), ((COIN, 1),))
        self.assertEqual(guest.mind((PASS, "1", FULL, "0")), ((PASSED, 0),))
        self.assertEqual(guest.mind((EMPTY, PASS)), ((PASSED, 0), (COIN, 1)))
        self.assertEqual(guest.mind((PASS, PASS)), ((PASSED, 1), (COIN, 2)))
        self.assertEqual(guest.mind((PASS,) * 3), ((PASSED, 2),))
        self.assertEqual(guest.mind((PASS,) * 4), ())
        self.assertEqual(guest.mind([list(PASS), ["open", [""]]]), ((COIN, 1),))

    def test_the_most(self):
        self.assertEqual(Guest(coin_craft(), (COIN,), ("keep",), 1).mind((PASS, PASS)), ((PASSED, 1),))
        self.assertEqual(Guest(coin_craft(), (COIN,), ("keep",), 0).mind((PASS, PASS)), ())
        self.assertEqual(Guest(coin_craft(), (COIN,), ("keep",), 4).mind((PASS,) * 4), ((PASSED, 3), (COIN, 4)))
        self.assertEqual(Guest(coin_craft(), (COIN,), (), 4).mind((PASS, EMPTY)), ())

    def test_a_sight_that_nothing_shows(self):
        for word in ("b", "aa", "abcdefghijk", "aaaaaaaaaaaa"):
            self.assertEqual(self.guest.mind((PASS, ("open", (word,)))), ())

    def test_behind(self):
        for mind, event, behind in ((((COIN, 1),), PASS, ((PASSED, 1), (COIN, 2))), (((COIN, 2),), PASS, ((PASSED, 2),)),
                                    (((COIN, 0), (BOTH, 1)), FULL, ((("a", "a", ""), 2),)), ((), PASS, ()),
                                    (((COIN, 1),), "1", ((COIN, 1),)), (((POCKET, 2),), EMPTY, ((POCKET, 2),))):
            self.assertEqual(self.guest.behind(mind, event), behind)
            got = self.guest.behind(as_lists(mind), as_lists(event))
            self.assertEqual(got, behind)
            self.assert_plain(got)

    def test_a_mind_hangs_on_the_one_ahead_and_the_event_alone(self):
        for guest, seen in some_sights(200, 1):
            for k, event in enumerate(seen):
                self.assertEqual(guest.behind(guest.mind(seen[:k]), event), guest.mind(seen[:k + 1]))

    def test_minds_are_those_of_all_explanations(self):
        sizes = set()
        for guest, seen in some_sights(500, 2):
            mind = guest.mind(seen)
            self.assertEqual(mind, mind_of(guest, seen))
            self.assertEqual(Guest.cost(mind), min([fewest for _, fewest in mind], default=None))
            sizes.add(min(len(mind), 3))
        self.assertEqual(sizes, {0, 1, 2, 3})

    def test_cost(self):
        for mind, cost in (((), None), ([], None), (((COIN, 0),), 0), (((PASSED, 3), (COIN, 1), (BOTH, 2)), 1),
                           ([[list(COIN), 4]], 4)):
            self.assertEqual(Guest.cost(mind), cost)
            self.assertEqual(self.guest.cost(mind), cost)

    def test_layman(self):
        for worlds in ((COIN, PASSED), (PASSED, COIN), (COIN, PASSED, COIN), (list(COIN), COIN, PASSED)):
            guest = Guest.layman(coin_craft(), *worlds)
            self.assertIs(type(guest), Guest)
            self.assertTrue(guest == Guest(coin_craft(), (PASSED, COIN)))
            self.assertEqual((guest.held, guest.known, guest.most), ((PASSED, COIN), (), 0))
        self.assertEqual(self.guest.layman(coin_craft(), COIN).held, (COIN,))

    def test_errors_of_layman(self):
        self.refused(BadHeld(-1), Guest.layman, coin_craft())
        self.refused(BadHeld(-1), Guest.layman, coin_craft(), *[COIN] * 61)
        self.refused(BadHeld(-1), Guest.layman, coin_craft(), *[None] * 61)
        self.assertEqual(len(Guest.layman(coin_craft(), *[COIN] * 60).held), 1)
        for world in NO_TUPLES + (("a", ""), ("ba", "", ""), (True, "", "")):
            self.refused(BadHeld(0), Guest.layman, coin_craft(), world, None)
            self.refused(BadHeld(2), Guest.layman, coin_craft(), COIN, PASSED, world)

    def test_attributes(self):
        craft, held, known = coin_craft(), as_lists((PASSED, COIN)), ["keep"]
        guest = Guest(most=3, known=known, held=held, craft=craft)
        spoil(held)
        spoil(known)
        self.assertIs(guest.craft, craft)
        self.assertEqual((guest.held, guest.known, guest.most), ((PASSED, COIN), ("keep",), 3))
        self.assert_plain((guest.held, guest.known))
        self.assertEqual((Guest(craft, (COIN,)).known, Guest(craft, (COIN,)).most), ((), 0))

    def test_equal(self):
        self.assertIs(self.guest == Guest(coin_craft(), [list(PASSED), COIN], ["keep", "load"], 2), True)
        others = [Guest(coin_craft(), (COIN,), ("keep", "load"), 2), Guest(coin_craft(), (PASSED, COIN), ("keep",), 2),
                  Guest(coin_craft(), (PASSED, COIN), ("keep", "load"), 1),
                  Guest(Craft(3, coin_craft().gestures, coin_craft().sleights[::-1]), (PASSED, COIN), ("keep", "load"), 2)]
        for other in others + [None, 2, (PASSED, COIN), coin_craft()]:
            self.assertIs(self.guest == other, False)
            self.assertIs(self.guest != other, True)

    def test_is_within(self):
        craft = coin_craft()
        less = Guest(craft, (COIN,), ("keep",), 1)
        for other, within in ((self.guest, True), (less, True), (Guest(coin_craft(), (COIN,), ("keep",), 2), True),
                              (Guest(craft, (COIN,), ("keep",), 0), False), (Guest(craft, (COIN,), ("load",), 1), False),
                              (Guest(craft, (PASSED,), ("keep",), 1), False), (Guest(craft, (COIN,), (), 4), False),
                              (Guest(craft.without("load"), (COIN,), ("keep",), 1), False)):
            self.assertIs(less.is_within(other), within)
        self.assertIs(self.guest.is_within(less), False)
        for other in (Guest(craft, (COIN,), ("keep", "load"), 2), Guest(craft, (PASSED, COIN), ("keep",), 2)):
            self.assertIs(self.guest.is_within(other), False)
            self.assertIs(other.is_within(self.guest), True)
        self.assertIs(Guest(craft, (COIN,)).is_within(less), True)

    def test_who_knows_more_has_all_explanations(self):
        for guest, seen in some_sights(150, 3):
            more = Guest(guest.craft, guest.held, guest.craft.arts, 4)
            self.assertTrue(guest.is_within(more))
            self.assertLessEqual(set(explanations(guest, seen)), set(explanations(more, seen)))


class TestErrors(Case):

    def test_bad_held(self):
        for held in NO_TUPLES + ((), [], (COIN,) * 61, (None,) * 61):
            self.refused(BadHeld(-1), Guest, coin_craft(), held, None, 9)
        for world in NO_TUPLES + (("a", ""), ("ba", "", ""), (True, "", ""), COIN, list(COIN), PASSED):
            self.refused(BadHeld(1), Guest, coin_craft(), (COIN, world, None), None, 9)
            self.refused(BadHeld(1), Guest, coin_craft(), [list(COIN), world], None, 9)
        self.refused(BadHeld(0), Guest, coin_craft(), (("a", ""),))

    def test_60_held_and_61(self):
        worlds = list(all_worlds(4, "aabb"))
        self.assertEqual(len(Guest(Craft(4, (("nod", (), ()),)), worlds[:60]).held), 60)
        self.refused(BadHeld(-1), Guest, Craft(4, (("nod", (), ()),)), worlds[:61])

    def test_bad_known(self):
        for known in NO_TUPLES:
            self.refused(BadKnown(-1), Guest, coin_craft(), (COIN,), known, 9)
        for name in NO_STRINGS + ("", "pass", "Keep", "keep", "again"):
            self.refused(BadKnown(1), Guest, coin_craft(), (COIN,), ("keep", name, None), 9)
            self.refused(BadKnown(1), Guest, coin_craft(), (COIN,), ["keep", name], 9)
        self.refused(BadKnown(0), Guest, coin_craft(), (COIN,), ("pass", "keep"))
        self.refused(BadKnown(1), Guest, coin_craft(), (COIN,), ("load", "keep"))

    def test_bad_most(self):
        for most in NO_INTEGERS + (-1, 5, 10 ** 39):
            self.refused(BadMost(most), Guest, coin_craft(), (COIN,), ("keep",), most)
        self.assertEqual([Guest(coin_craft(), (COIN,), (), most).most for most in range(5)], list(range(5)))

    def test_bad_seen(self):
        guest = Guest(coin_craft(), (COIN,), ("keep",), 1)
        for seen in NO_TUPLES + (("0",) * 25, [None] * 25):
            self.refused(BadSeen(-1), guest.mind, seen)
        for event in NO_EVENTS:
            self.refused(BadSeen(0), guest.mind, (event,))
            self.refused(BadSeen(2), guest.mind, [PASS, "0", event, None])
            self.refused(BadSeen(0), guest.behind, ((COIN, 0),), event)
            self.refused(BadSeen(0), guest.behind, (), event)

    def test_24_seen_things_and_25(self):
        guest = Guest(coin_craft(), (COIN,), ("keep",), 4)
        self.assertEqual(guest.mind((EMPTY,) * 12 + ("0",) * 12), ((COIN, 0),))
        self.refused(BadSeen(-1), guest.mind, (EMPTY,) * 25)
        # What is passed for one event more is not bounded by what came ahead.
        mind = guest.mind((EMPTY,) * 24)
        self.assertEqual(guest.behind(mind, EMPTY), ((COIN, 0),))

    def test_what_is_passed_is_not_changed(self):
        guest = Guest(coin_craft(), (COIN,), ("keep",), 4)
        mind, event, seen = as_lists(((COIN, 1),)), as_lists(EMPTY), as_lists((PASS, "0", EMPTY))
        guest.behind(mind, event)
        guest.mind(seen)
        self.assertEqual((mind, event, seen), (as_lists(((COIN, 1),)), as_lists(EMPTY), as_lists((PASS, "0", EMPTY))))
