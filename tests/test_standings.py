import itertools

from shownempty.acts import Act
from shownempty.compiled import act_of
from shownempty.craft import Craft
from shownempty.errors import BadWorld, NoStanding, TooLong, TooMany
from shownempty.plays import Play
from shownempty.scripts import Script
from shownempty.standings import Standings
from tests.helpers import NO_INTEGERS, NO_TUPLES, Case, coin_act, coin_craft
from tests.scripthelp import STARTS, some_bodies

END = ("end",)
COIN = ("a", "", "")
BAD_WORLDS = NO_TUPLES + (("", ""), ("",) * 4, ["ba", "", ""], (True, "", ""), ("aaaaa", "aaaa", ""), (None, "", ""))


def many_standings(nods, inner=19):
    """An act and a start with 115 standings, 25 for each inner nod, and one more for each of the nods ahead of all.

    Four of each of two kinds go over, one by one, as the guests ask for them.
    """
    craft = Craft(2, (("nod", (), ()), ("left", (("a", 0, 1),), ()), ("right", (("b", 0, 1),), ())))
    ask = nods + inner
    cues = [("do", "nod", "")] * ask
    cues.extend([("ask", ask + 1, ask + 3), ("do", "left", ""), ("ask", nods, nods)])
    cues.extend([("do", "right", ""), ("ask", nods, nods)])
    return Act(craft, cues), ("aaaabbbb", "")


def long_act(last):
    """An act that asks 50 times ahead of each of 8 passes, and then comes to this cue with the number 1."""
    craft = Craft(2, (("pass", (("a", 0, 1),), ()),))
    cues = [("glance", 0, "a", 3), last, END, ("do", "pass", "")]
    cues.extend([("ask", k, k) for k in range(5, 54)])
    return Act(craft, cues + [("ask", 0, 0)]), ("aaaaaaaa", "")


def acts():
    """Many acts that are made of scripts."""
    for body in some_bodies(120):
        try:
            yield act_of(Script(coin_craft(), body))
        except (TooLong, TooMany):
            continue


def by_playing(act, start, most):
    """For each standing that up to so many answers reach, the least answers that lead to it."""
    least = {}
    rows = [""]
    while rows and len(rows[0]) <= most:
        asking = []
        for row in rows:
            play = Play(act, start, row)
            first = (0, start) if row == "" else act.followers(Play(act, start, row[:-1]).last)[int(row[-1])]
            for standing in act.run_from(first):
                least.setdefault(standing, row)
            if play.rest == "ask":
                asking.append(row)
        rows = [row + answer for row in asking for answer in "01"]
    return least


class TestStandings(Case):

    def test_the_example_of_the_document(self):
        standings = Standings(coin_act(), COIN)
        self.assertEqual(tuple(standings), ((0, COIN), (1, COIN), (2, COIN), (3, COIN)))
        self.assertEqual([standings[standing] for standing in standings], ["", "", "0", "0"])

    def test_attributes(self):
        act = coin_act()
        standings = Standings(start=list(COIN), act=act)
        self.assertIs(standings.act, act)
        self.assertEqual(standings.start, COIN)
        self.assert_plain(standings.start)
        self.assert_plain(tuple(standings))

    def test_the_start_is_kept(self):
        start = list(COIN)
        standings = Standings(coin_act(), start)
        start[0] = "b"
        self.assertEqual((standings.start, standings[(0, COIN)]), (COIN, ""))

    def test_an_act_that_only_ends(self):
        standings = Standings(Act(coin_craft(), (END,)), COIN)
        self.assertEqual((len(standings), list(standings), standings[0, COIN]), (1, [(0, COIN)], ""))

    def test_ascending_by_cues_and_worlds(self):
        act, start = many_standings(0)
        standings = list(Standings(act, start))
        self.assertEqual(standings, sorted(set(standings)))
        self.assertEqual(standings[:3], [(0, ("", "aaaabbbb")), (0, ("a", "aaabbbb")), (0, ("aa", "aabbbb"))])

    def test_the_least_answers(self):
        # The standing behind the stroke can be reached by 1, and also by 00.
        act = Act(coin_craft(), (("ask", 1, 2), ("ask", 2, 2), ("do", "pass", "keep"), END))
        standings = Standings(act, COIN)
        self.assertEqual([standings[k, COIN] for k in range(4)], ["", "0", "1", "1"])
        act = Act(coin_craft(), (("ask", 2, 1), ("ask", 3, 3), ("ask", 4, 3), END, ("ask", 1, 3)))
        standings = Standings(act, COIN)
        self.assertEqual([standings[k, COIN] for k in range(5)], ["", "1", "0", "01", "00"])

    def test_what_is_not_reached(self):
        act = Act(coin_craft(), (("go", 2), END, END))
        self.assertEqual(tuple(Standings(act, COIN)), ((0, COIN), (2, COIN)))
        act = Act(coin_craft(), (("glance", 0, "a", 2), END, ("do", "pass", ""), ("do", "pass", ""), END))
        self.assertEqual(tuple(Standings(act, COIN)), ((0, COIN), (2, COIN), (3, ("", "a", ""))))

    def test_many_acts(self):
        for act in acts():
            for start in STARTS:
                least = by_playing(act, start, 5)
                standings = Standings(act, start)
                told = {standing: standings[standing] for standing in standings}
                self.assertEqual(least, {standing: row for standing, row in told.items() if len(row) <= 5})
                self.assertEqual(list(standings), sorted(standings))
                self.assertEqual(len(standings), len(list(standings)))

    def test_more_answers_than_a_play_can_have(self):
        act, start = long_act(END)
        standings = Standings(act, start)
        self.assertEqual(len(standings), 9 + 1 + 8 * 51)
        self.assertEqual(standings[1, ("", "aaaaaaaa")], "0" * 400)
        self.assertEqual(standings[53, ("", "aaaaaaaa")], "0" * 399)

    def test_600_and_601(self):
        act, start = many_standings(10)
        self.assertEqual(len(Standings(act, start)), 600)
        act, start = many_standings(11)
        self.refused(TooMany("standing"), Standings, act, start)

    def test_far_too_many(self):
        letters = "abcdefgh"
        cues = []
        for k, _ in enumerate(letters):
            behind = (3 * k + 3) % 24
            cues.extend([("ask", 3 * k + 1, 3 * k + 2), ("do", letters[k], ""), ("ask", behind, behind)])
        craft = Craft(2, tuple([(letter, ((letter, 0, 1),), ()) for letter in letters]))
        self.refused(TooMany("standing"), Standings, Act(craft, cues), (letters, ""))

    def test_bad_worlds(self):
        for start in BAD_WORLDS:
            self.refused(BadWorld(start), Standings, coin_act(), start)


class TestLookedUp(Case):

    def setUp(self):
        self.standings = Standings(coin_act(), COIN)

    def test_there(self):
        for thing in ((0, COIN), [1, COIN], (2, list(COIN)), [3, list(COIN)]):
            self.assertIs(thing in self.standings, True)
        self.assertEqual((self.standings[1, COIN], self.standings[[2, list(COIN)]]), ("", "0"))

    def test_not_there(self):
        things = [(0, ("", "a", "")), (4, COIN), (-1, COIN), (0, ("a", "")), (0,), (0, COIN, 0), (), COIN, [COIN, 0]]
        things.extend([(number, COIN) for number in NO_INTEGERS])
        things.extend([(0, world) for world in NO_TUPLES + ((["a"], "", ""), (True, "", ""))])
        for thing in things + list(NO_TUPLES) + [2, -1, slice(0, 1)]:
            self.assertIs(thing in self.standings, False)
            self.refused(NoStanding(thing), lambda: self.standings[thing])

    def test_all_pairs(self):
        for number, world in itertools.product(range(-1, 5), (COIN, ("", "a", ""), ("", "", "a"))):
            self.assertIs((number, world) in self.standings, world == COIN and 0 <= number <= 3)
