"""Acts with challenges, gone through as the document tells them, for tests that compare."""

from shownempty.acts import Act
from shownempty.craft import Craft
from shownempty.guests import Guest
from shownempty.worlds import fits
from tests.acthelp import rich_plays, some_guest, some_lot


class Parlour:
    """An act, a guest, a wish, challenges and a most, whose situations are found by playing."""

    def __init__(self, act, start, guest, wish, challenges, most):
        self.act, self.start, self.guest, self.wish = act, start, guest, wish
        self.challenges, self.most = challenges, most

    def rested(self, standing, mind, made):
        run = self.act.run_from(standing)
        for here, there in zip(run, run[1:]):
            cue = self.act[here[0]]
            if cue[0] == "do":
                sight = tuple([there[1][place] for place in self.act.craft.places_of(cue[1])])
                mind = self.guest.behind(mind, (cue[1], sight))
        return run[-1] + (mind, made)

    def first(self):
        return self.rested((0, self.start), self.guest.beginning, 0)

    def rest(self, situation):
        return self.act.rest_at(situation[:2])

    def is_broken(self, situation):
        rest = self.rest(situation)
        return rest == "stuck" or rest == "end" and not fits(situation[1], self.wish)

    def answers(self, situation):
        if self.rest(situation) != "ask":
            return {}
        followers = self.act.followers(situation[:2])
        return {answer: self.rested(follower, situation[2], situation[3]) for answer, follower in zip("01", followers)}

    def named(self, situation):
        if self.rest(situation) == "stuck" or self.most is not None and situation[3] >= self.most:
            return ()
        return self.challenges

    def meetings(self, situation, gesture):
        number, world, mind, made = situation
        found = []
        for manner in self.act.craft.manners_of(gesture):
            stroke = self.act.craft.stroke(world, gesture, manner)
            if stroke is not None:
                later = self.guest.behind(mind, (gesture, stroke[1]))
                if Guest.cost(later) == Guest.cost(mind):
                    found.append((manner, (number, stroke[0], later, 0 if self.most is None else made + 1)))
        return tuple(found)

    def situations(self):
        found = {self.first()}
        todo = [self.first()]
        while todo:
            here = todo.pop()
            later = list(self.answers(here).values())
            later.extend(behind for gesture in self.named(here) for _, behind in self.meetings(here, gesture))
            for behind in later:
                if behind not in found:
                    found.add(behind)
                    todo.append(behind)
        return sorted(found)

    def left_by(self, situation, delays):
        """What the moves leave that are the loss, in their order: pairs (move, delay)."""
        left = [(answer, delays[behind]) for answer, behind in self.answers(situation).items() if behind in delays]
        for gesture in self.named(situation):
            behind = [delays.get(later) for _, later in self.meetings(situation, gesture)]
            if None not in behind:
                left.append((gesture, max(behind, default=0)))
        return left

    def delays(self):
        """The delays of the lost situations: the least ones first, as long as there are more."""
        situations = self.situations()
        delays = {situation: 0 for situation in situations if self.is_broken(situation)}
        for delay in range(1, 10 ** 6):
            found = [situation for situation in situations if situation not in delays
                     and min([left for _, left in self.left_by(situation, delays)], default=delay) == delay - 1]
            if not found:
                return delays
            delays.update((situation, delay) for situation in found)


def some_stands(number, seed=0):
    """So many stands: the arguments up to the challenges, and the source of chance."""
    for act, start, rng in rich_plays(number, seed):
        guest = some_guest(rng, act.craft, start)
        wish = tuple([rng.choice((None, None, None, "", "a")) for _ in start])
        challenges = some_lot(rng, [gesture[0] for gesture in act.craft], 1)
        yield (act, start, guest, wish, challenges), rng


def restless_stands(number, seed=0):
    """As above, with crafts in which a gesture can be shown only so often."""
    for (act, start, guest, wish, challenges), rng in some_stands(number, seed):
        gestures = act.craft.gestures + (("drain", (("a", 0, 1),), some_lot(rng, range(act.craft.size))),)
        craft = Craft(act.craft.size, gestures, act.craft.sleights + (("stay", "drain", (), 1, ()),))
        known = tuple(sorted(set(guest.known) | ({"stay"} if rng.random() < 0.5 else set())))
        heap = ("aaa",) + ("",) * (craft.size - 1)
        held = tuple(sorted(set(guest.held) | {heap}))
        lot = tuple(sorted(set(challenges[:1]) | {"drain"}))
        yield (Act(craft, act.cues), heap, Guest(craft, held, known, guest.most), wish, lot), rng


def many_situations(ahead):
    """An act, a start and a guest with 1,000 situations without challenges, and one for each ask ahead of all others.

    Four of each of two kinds go over, one by one, as the guests ask for them; it is stuck when none is left.
    """
    craft = Craft(2, (("left", (("a", 0, 1),), ()), ("right", (("b", 0, 1),), ()), ("wave", (), ())))
    last = ahead + 37
    cues = [("ask", k + 1, k + 1) for k in range(last)]
    cues.extend([("ask", last + 1, last + 3), ("do", "left", ""), ("ask", ahead, ahead)])
    cues.extend([("do", "right", ""), ("ask", ahead, ahead)])
    start = ("aaaabbbb", "")
    return Act(craft, cues), start, Guest.layman(craft, start)
