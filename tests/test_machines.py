import itertools

from shownempty.actpairs import ActPair
from shownempty.acts import Act
from shownempty.compiled import act_of
from shownempty.craft import Craft
from shownempty.errors import BadAnswer, BadWorld, NoState, TooLong, TooMany
from shownempty.fillings import Fillings
from shownempty.lasting import Lasting
from shownempty.machines import Machine
from shownempty.plays import show_of
from shownempty.scriptplays import played
from shownempty.scripts import Script
from shownempty.standings import Standings
from tests.acthelp import moved_by, rich_plays, rows_of, some_act, some_lot, some_plays
from tests.helpers import NO_INTEGERS, NO_STRINGS, Case, coin_act, coin_craft, spoil
from tests.scripthelp import STARTS, some_bodies
from tests.test_standings import BAD_WORLDS, long_act, many_standings

END = ("end",)
COIN = ("a", "", "")
PASSED = ("", "a", "")
PASSING = ("pass", ())
EMPTY = ("open", ("",))
FULL = ("open", ("a",))


def runs_of(act, standing):
    """For each answer at an ask the events and the rest of the run, and the standing where it rests."""
    told = []
    for follower in act.followers(standing):
        run = act.run_from(follower)
        events = []
        for here, there in zip(run, run[1:]):
            if act[here[0]][0] == "do":
                gesture = act[here[0]][1]
                events.append((gesture, tuple([there[1][place] for place in act.craft.places_of(gesture)])))
        told.append((tuple(events), act.rest_at(run[-1]), run[-1]))
    return told


def parted_pairs(act, asks):
    """The pairs of standings at an ask that some answers part: by one answer, or by those that part what follows."""
    runs = {ask: runs_of(act, ask) for ask in asks}
    parted = {frozenset((one, other)) for one in asks for other in asks
              if [run[:2] for run in runs[one]] != [run[:2] for run in runs[other]]}
    while True:
        more = {frozenset((one, other)) for one in asks for other in asks
                if any(frozenset((run[2], beside[2])) in parted for run, beside in zip(runs[one], runs[other]))}
        if more <= parted:
            return parted
        parted |= more


def machine_of(act, start):
    """The opening and the table of the least machine."""
    standings = Standings(act, start)
    asks = sorted([standing for standing in standings if act.rest_at(standing) == "ask"],
                  key=lambda ask: (len(standings[ask]), standings[ask]))
    parted = parted_pairs(act, asks)
    firsts = []
    for ask in asks:
        if all(frozenset((ask, first)) in parted for first in firsts):
            firsts.append(ask)

    def passage(events, rest, standing):
        if rest != "ask":
            return events, rest
        return events, [k for k, first in enumerate(firsts) if frozenset((first, standing)) not in parted][0]

    opening = show_of(act, start, "")
    return (passage(*opening, act.run_from((0, start))[-1]),
            tuple(tuple(passage(*run) for run in runs_of(act, first)) for first in firsts))


class TestMachine(Case):

    def test_machine(self):
        machine = Machine(coin_act(), COIN)
        self.assertEqual(machine.opening, ((PASSING,), 0))
        self.assertEqual(machine.table, ((((EMPTY,), "end"), ((PASSING,), 0)),))
        self.assertEqual((len(machine), list(machine), machine[0]), (1, list(machine.table), machine.table[0]))
        self.assert_plain((machine.opening, machine.table))

    def test_honest_passes_come_to_an_end(self):
        act = Act(coin_craft(), (("do", "pass", ""),) + coin_act().cues[1:])
        machine = Machine(act, ("aa", "", ""))
        self.assertEqual(machine.opening, ((PASSING,), 0))
        self.assertEqual(machine.table, ((((FULL,), "end"), ((PASSING,), 1)),
                                         (((("open", ("aa",)),), "end"), ((), "stuck"))))

    def test_nothing_is_asked(self):
        for cues, start, opening in (((END,), COIN, ((), "end")), ((("do", "pass", ""), END), COIN, ((PASSING,), "end")),
                                     ((("do", "pass", ""), END), PASSED, ((), "stuck"))):
            machine = Machine(Act(coin_craft(), cues), start)
            self.assertEqual((machine.opening, machine.table, len(machine), list(machine)), (opening, (), 0, []))
            self.assertEqual(machine.show("0101"), opening)

    def test_no_more_states_than_needed(self):
        # The world of the second ask is another one, and one can never see it.
        act = Act(coin_craft(), (("ask", 1, 1), ("do", "pass", ""), ("ask", 3, 3), ("do", "pass", "keep"), ("ask", 3, 3)))
        machine = Machine(act, COIN)
        self.assertEqual((machine.opening, machine.table), (((), 0), ((((PASSING,), 0), ((PASSING,), 0)),)))
        # What is shown later parts the states from the beginning.
        act = Act(coin_craft(), (("ask", 1, 3), ("ask", 2, 2), ("ask", 5, 5), ("ask", 4, 4), ("ask", 7, 7),
                                 ("do", "open", ""), END, ("do", "reach", ""), END))
        self.assertEqual(len(Machine(act, COIN)), 5)

    def test_the_order_of_the_states(self):
        # By 1 one comes to a cue with a lesser number than by 0.
        act = Act(coin_craft(), (("ask", 3, 1), ("do", "reach", ""), ("ask", 0, 4), ("ask", 3, 4), END))
        machine = Machine(act, COIN)
        seen = ("reach", ("a",))
        self.assertEqual((machine.opening, machine.table),
                         (((), 0), ((((), 1), ((seen,), 2)), (((), 1), ((), "end")), (((), 0), ((), "end")))))

    def test_show(self):
        machine = Machine(coin_act(), COIN)
        self.assertEqual(machine.show("10"), ((PASSING, "1", PASSING, "0", EMPTY), "end"))
        self.assertEqual(machine.show("1"), ((PASSING, "1", PASSING), "ask"))
        self.assertEqual(machine.show(answers="0111"), ((PASSING, "0", EMPTY), "end"))
        self.assertEqual(machine.show("1" * 200), show_of(coin_act(), COIN, "1" * 200))
        self.assert_plain(machine.show("10"))

    def test_bad_answers(self):
        machine = Machine(coin_act(), COIN)
        for answers in NO_STRINGS + ("0" * 201, ["0"], ("0",)):
            self.refused(BadAnswer(-1), machine.show, answers)
        for answers, k in (("x", 0), ("0x", 1), ("0001 ", 4), ("12", 1), ("00a2", 2)):
            self.refused(BadAnswer(k), machine.show, answers)

    def test_no_state(self):
        machine = Machine(coin_act(), COIN)
        for state in NO_INTEGERS + (-1, 1, 10 ** 39, slice(0, 1)):
            self.refused(NoState(state), lambda: machine[state])

    def test_equal(self):
        machine = Machine(coin_act(), COIN)
        other = Machine(coin_act(), ("aab", "", "z"))
        self.assertIs(machine == other, True)
        self.assertNotEqual(other.start, machine.start)
        craft = Craft(2, (("pass", (), ()), ("open", (), (1,))))
        self.assertEqual(Machine(Act(craft, (("do", "pass", ""), ("ask", 2, 0), ("do", "open", ""), END)), ("", "")), machine)
        for thing in (Machine(coin_act(), ("a", "b", "")), Machine(Act(coin_craft(), (END,)), COIN), None, 0, (),
                      machine.table, (machine.opening, machine.table)):
            self.assertIs(machine == thing, False)
        # The openings alone part these two, or the tables alone.
        asks = Act(coin_craft(), (("ask", 0, 0),))
        seen = Act(coin_craft(), (("do", "pass", "keep"), ("ask", 1, 1)))
        self.assertEqual(Machine(asks, COIN).table, Machine(seen, COIN).table)
        self.assertNotEqual(Machine(asks, COIN), Machine(seen, COIN))
        ends = Act(coin_craft(), (("ask", 1, 1), END))
        self.assertEqual(Machine(asks, COIN).opening, Machine(ends, COIN).opening)
        self.assertNotEqual(Machine(asks, COIN), Machine(ends, COIN))

    def test_attributes(self):
        start = list(COIN)
        act = coin_act()
        machine = Machine(start=start, act=act)
        spoil(start)
        self.assertIs(machine.act, act)
        self.assertEqual(machine.start, COIN)

    def test_bad_worlds(self):
        for start in BAD_WORLDS:
            self.refused(BadWorld(start), Machine, coin_act(), start)
        self.refused(BadWorld(COIN), Machine, many_standings(11)[0], COIN)

    def test_600_and_601(self):
        machine = Machine(*many_standings(10))
        self.assertEqual((len(machine), machine.opening), (49, ((("nod", ()),) * 29, 0)))
        self.refused(TooMany("standing"), Machine, *many_standings(11))

    def test_long_rows_part_states(self):
        # How many answers one is away from the end is seen at the end alone.
        cues = [("ask", k + 1, k + 1) for k in range(59)] + [END]
        machine = Machine(Act(coin_craft(), cues), COIN)
        self.assertEqual([row[0] for row in machine], [((), k + 1) for k in range(58)] + [((), "end")])
        act, start = long_act(END)
        self.assertEqual(len(Machine(act, start)), 8 * 50)

    def test_many_acts(self):
        told = set()
        for act, start, _ in some_plays(500, 90):
            machine = Machine(act, start)
            self.assertEqual((machine.opening, machine.table), machine_of(act, start))
            told.add(min(len(machine), 4))
            for row in rows_of(4):
                self.assertEqual(machine.show(row), show_of(act, start, row))
        self.assertEqual(told, {0, 1, 2, 3, 4})

    def test_rich_acts(self):
        for act, start, _ in rich_plays(100, 91):
            machine = Machine(act, start)
            self.assertEqual((machine.opening, machine.table), machine_of(act, start))


class TestAlike(Case):

    def test_acts_are_seen_alike_exactly_if_their_machines_are_equal(self):
        told = set()
        for act, start, rng in rich_plays(150, 92):
            others = [(some_act(rng, act.craft), start), (act, start[::-1]),
                      (Act(act.craft, (("go", 1),) + tuple(moved_by([self.shifted(cue) for cue in act], 1))), start)]
            for other, begun in others:
                alike = bool(ActPair(act, start, other, begun))
                self.assertIs(Machine(act, start) == Machine(other, begun), alike)
                told.add(alike)
        self.assertEqual(told, {True, False})

    def shifted(self, cue):
        """The cue with its later cues further by one; asks are moved apart from it."""
        if cue[0] in ("go", "glance"):
            return cue[:-1] + (cue[-1] + 1,)
        return cue

    def test_many_pairs_of_standings(self):
        # As many as an ActPair cannot have are no hindrance: nothing is ever seen of the two rounds.
        first, second = [Act(coin_craft(), [("ask", (k + 1) % many, (k + 1) % many) for k in range(many)])
                         for many in (25, 29)]
        self.refused(TooMany("pair"), ActPair, first, COIN, second, COIN)
        self.assertEqual(Machine(first, COIN), Machine(second, COIN))
        self.assertEqual(len(Machine(first, COIN)), 1)

    def test_fillings_that_last_have_the_machine_of_the_true_act(self):
        told = set()
        for act, start, rng in rich_plays(80, 93):
            held = tuple(sorted({start, start[::-1]}))
            try:
                lasting = Lasting(act, start, held, some_lot(rng, act.craft.arts))
            except TooMany:
                continue
            true, fillings = Machine(act, start), Fillings(act, held, lasting.known)
            for filling in fillings:
                alike = Machine(fillings.filled(filling), filling[0]) == true
                self.assertIs(alike, filling in lasting.table)
                told.add(alike)
        self.assertEqual(told, {True, False})

    def test_scripts(self):
        for body in some_bodies(60):
            try:
                script = Script(coin_craft(), body)
                act = act_of(script)
            except (TooLong, TooMany):
                continue
            for start in STARTS:
                machine = Machine(act, start)
                for row in rows_of(3):
                    shown = machine.show(row)
                    asked = "".join(event for event in shown[0] if isinstance(event, str))
                    self.assertEqual(shown, played(script, start, asked)[:2])

    def test_every_row_of_the_table_is_come_to(self):
        for act, start, _ in itertools.islice(some_plays(200, 94), 100):
            machine = Machine(act, start)
            came = {machine.opening[1]} | {passage[1] for row in machine for passage in row}
            self.assertLessEqual(set(range(len(machine))), came)
