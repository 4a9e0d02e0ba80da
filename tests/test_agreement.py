"""What the verdicts tell agrees with joined acts, with scripts and with one another."""

from shownempty.bounds import Bounded
from shownempty.compiled import act_of
from shownempty.ending import Ending
from shownempty.errors import TooLong, TooMany
from shownempty.habits import Habits
from shownempty.plays import Play
from shownempty.scriptplays import played
from shownempty.scripts import Script
from shownempty.smooth import Smooth
from shownempty.standings import Standings
from shownempty.unseen import Unseen
from shownempty.wishes import Keeps, Reaches
from tests.acthelp import rows_of, runs_behind, some_act, some_habits, some_lot, some_plays
from tests.helpers import Case, coin_craft
from tests.scripthelp import STARTS, some_bodies


def ends_of(act, start):
    """The worlds in which the act can end."""
    return sorted({world for number, world in Standings(act, start) if act[number][0] == "end"})


class TestJoined(Case):

    def test_joined_acts(self):
        told = set()
        for act, start, rng in some_plays(400, 10):
            other = some_act(rng, act.craft)
            joined = act + other
            ends = ends_of(act, start)
            wish = tuple([rng.choice((None, "", "a")) for _ in start])
            for name, verdict in (("smooth", Smooth), ("ending", Ending), ("bounded", Bounded)):
                both = bool(verdict(act, start)) and all(verdict(other, end) for end in ends)
                self.assertIs(bool(verdict(joined, start)), both)
                told.add((name, both))
            keeps = all(Keeps(other, end, wish) for end in ends)
            reaches = any(Reaches(other, end, wish) for end in ends)
            self.assertIs(bool(Keeps(joined, start, wish)), keeps)
            self.assertIs(bool(Reaches(joined, start, wish)), reaches)
            told.update({("keeps", keeps), ("reaches", reaches)})
        self.assertEqual(len(told), 10)

    def test_ranks_and_prices_of_joined_acts(self):
        for act, start, rng in some_plays(300, 11):
            other = some_act(rng, act.craft)
            ending, bounded = Ending(act + other, start), Bounded(act + other, start)
            ends = ends_of(act, start)
            if ending and ends:
                longest = max(dict(Ending(other, end))[0, end] for end in ends)
                self.assertLessEqual(dict(ending)[0, start], dict(Ending(act, start))[0, start] + longest)
            if bounded and ends:
                dearest = max(Bounded(other, end).bound for end in ends)
                self.assertLessEqual(bounded.bound, Bounded(act, start).bound + dearest)
                self.assertGreaterEqual(bounded.bound, Bounded(act, start).bound)


class TestPlays(Case):

    def test_plays_keep_what_the_verdicts_tell(self):
        for act, start, rng in some_plays(300, 12):
            wish = tuple([rng.choice((None, "", "a")) for _ in start])
            ending, bounded, keeps = Ending(act, start), Bounded(act, start), Keeps(act, start, wish)
            reaches = Reaches(act, start, wish)
            for row in runs_behind(act, start, 5):
                play = Play(act, start, row)
                if ending:
                    self.assertEqual(len(row) + dict(ending)[play.last] <= dict(ending)[0, start], True)
                    self.assertNotEqual(play.rest, "stuck")
                if bounded:
                    self.assertLessEqual(play.price + dict(bounded)[play.last], bounded.bound)
                if play.rest == "end":
                    fitting = all(word is None or word == there for word, there in zip(wish, play.last[1]))
                    self.assertTrue(fitting or not keeps)
                    self.assertTrue(not fitting or reaches)

    def test_one_another(self):
        for act, start, rng in some_plays(300, 13):
            wish = tuple([rng.choice((None, "", "a")) for _ in start])
            if Ending(act, start):
                self.assertTrue(Smooth(act, start))
                # It ends whatever is answered: so it ends.
                self.assertTrue(Bounded(act, start))
                self.assertTrue(not Keeps(act, start, wish) or Reaches(act, start, wish))
                self.assertTrue(Reaches(act, start, (None,) * act.craft.size))
            self.assertEqual(bool(Smooth(act, start)), Ending(act, start).breach is None
                             or Ending(act, start).breach[0] == "loop")

    def test_habits_that_change_nothing(self):
        for act, start, rng in some_plays(300, 14):
            eyes = some_lot(rng, range(act.craft.size + 1), 1)
            places = range(act.craft.size + 1)
            staying = Habits(act.craft, [(gesture[0], [(eye,) for eye in places]) for gesture in act.craft])
            none = Unseen(act, start, Habits(act.craft, ()), eyes)
            self.assertEqual((none.story, none.table), (Unseen(act, start, staying, eyes).story,
                                                        Unseen(act, start, staying, eyes).table))
            # Whoever can look at more places sees whatever those see who can look at fewer.
            everywhere = Habits(act.craft, [(gesture[0], [tuple(places)] * len(places)) for gesture in act.craft])
            if not Unseen(act, start, some_habits(rng, act.craft), eyes):
                self.assertFalse(Unseen(act, start, everywhere, eyes))


class TestScripts(Case):

    def test_scripts_and_their_acts(self):
        told = set()
        for body in some_bodies(80):
            try:
                script = Script(coin_craft(), body)
                act = act_of(script)
            except (TooLong, TooMany):
                continue
            for start in STARTS:
                self.one(script, act, start)
                breach = Ending(act, start).breach
                if all(statement[0] != "again" for statement in script.statements()):
                    self.assertTrue(breach is None or breach[0] == "stuck")
                told.add(breach and breach[0])
        self.assertEqual(told, {None, "stuck", "loop"})

    def one(self, script, act, start):
        """The plays of the script keep what is told of its act."""
        smooth, bounded = Smooth(act, start), Bounded(act, start)
        for row in rows_of(4):
            if row in runs_behind(act, start, 4):
                _, rest, price, _ = played(script, start, row)
                self.assertTrue(rest != "stuck" or not smooth)
                self.assertTrue(not bounded or price <= bounded.bound)
