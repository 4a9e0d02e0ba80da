"""Scripts for several tests, and what they are to show, told once more in another way."""

import random

from shownempty.deeds import done

DO = ("do", "pass", "")
KEEP = ("do", "pass", "keep")
OPEN = ("do", "open", "")
LOAD = ("do", "open", "load")
BACK = ("do", "reach", "")
STOP = ("stop",)
SIMPLE = (DO, KEEP, OPEN, LOAD, BACK, STOP)
STARTS = (("a", "", ""), ("aa", "b", "a"), ("", "", "aaa"), ("", "", ""))


class Rested(Exception):
    pass


def nested(many, body=()):
    """A body whose innermost statements stand in so many bodies besides the whole one."""
    for _ in range(many):
        body = (("again", body),)
    return body


def some_body(source, depth, most):
    """A body of at most so many statements, nested at most so deeply."""
    return tuple([some_statement(source, depth) for _ in range(source.randint(0, most))])


def some_statement(source, depth):
    what = source.choice(("simple", "either", "again", "peek")) if depth > 0 else "simple"
    if what == "simple":
        return source.choice(SIMPLE[:5] * 3 + SIMPLE)
    if what == "either":
        return ("either", some_body(source, depth - 1, 2), some_body(source, depth - 1, 2))
    if what == "again":
        return ("again", some_body(source, depth - 1, 2))
    place, kind = source.randint(0, 2), source.choice("ab")
    return ("peek", place, kind, some_body(source, depth - 1, 2), some_body(source, depth - 1, 2))


def some_bodies(many):
    """So many bodies, the same each time."""
    source = random.Random(many)
    return [some_body(source, source.randint(1, 5), 3) for _ in range(many)]


class Told:
    """A play of a script as the document tells it, body by body."""

    def __init__(self, craft, start, answers):
        self.craft = craft
        self.world = start
        self.answers = list(answers)
        self.events = []
        self.price = 0

    def tell(self, body):
        """The tuple (events, rest, price, world), and the answers that were not asked for."""
        try:
            self.go(body)
            rest = "end"
        except Rested as rested:
            rest = rested.args[0]
        return (tuple(self.events), rest, self.price, self.world), self.answers

    def ask(self):
        if not self.answers:
            raise Rested("ask")
        self.events.append(self.answers.pop(0))
        return self.events[-1] == "1"

    def go(self, body):
        for statement in body:
            getattr(self, "go_" + statement[0])(*statement[1:])

    def go_do(self, gesture, manner):
        behind = done(self.world, self.craft.deed_of(gesture, manner))
        if behind is None:
            raise Rested("stuck")
        self.world = behind
        self.price += self.craft.price_of(gesture, manner)
        self.events.append((gesture, tuple(behind[place] for place in self.craft.places_of(gesture))))

    def go_either(self, body, other):
        self.go(other if self.ask() else body)

    def go_again(self, body):
        self.go(body)
        while self.ask():
            self.go(body)

    def go_peek(self, place, kind, body, other):
        self.go(body if kind in self.world[place] else other)

    def go_stop(self):
        raise Rested("end")
