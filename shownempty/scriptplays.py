"""Plays of scripts, statement by statement, whether or not an act has room for them."""

from shownempty.errors import BadAnswer, BadWorld
from shownempty.forms import frozen
from shownempty.plays import is_answer, is_short_string
from shownempty.worlds import is_world


class Course:
    """What has come of a play of a script, and what is still to be done."""

    def __init__(self, craft, start, body):
        self.craft = craft
        self.world = start
        self.left = body
        self.seen = []
        self.paid = 0
        self.halt = None

    def run(self):
        """Goes on to where the play rests."""
        self.halt = None
        while self.halt is None:
            if len(self.left) == 0:
                self.halt = "end"
            else:
                self.take(self.left[0])

    def take(self, statement):
        """Takes up the next statement."""
        what = statement[0]
        if what == "do":
            self.do(statement[1], statement[2])
        elif what == "peek":
            _, place, kind, body, other = statement
            self.left = (body if kind in self.world[place] else other) + self.left[1:]
        elif what == "again":
            # Behind the body the guests are asked whether all this shall be done again.
            asking = ("either", (), (statement,))
            self.left = statement[1] + (asking,) + self.left[1:]
        else:
            self.halt = "end" if what == "stop" else "ask"

    def do(self, gesture, manner):
        """Does a stroke, if it can be done."""
        stroke = self.craft.stroke(self.world, gesture, manner)
        if stroke is None:
            self.halt = "stuck"
            return
        self.world, sight = stroke
        self.seen.append((gesture, sight))
        self.paid += self.craft.price_of(gesture, manner)
        self.left = self.left[1:]

    def hear(self, answer):
        """Takes up what the answer asks for."""
        self.seen.append(answer)
        self.left = self.left[0][1 + int(answer)] + self.left[1:]


def played(script, start, answers):
    """The tuple (events, rest, price, world) of the play of a script."""
    if not is_world(start, script.craft.size):
        raise BadWorld(start)
    if not is_short_string(answers):
        raise BadAnswer(-1)
    course = Course(script.craft, frozen(start), script.body)
    course.run()
    for k, answer in enumerate(answers):
        if course.halt != "ask" or not is_answer(answer):
            raise BadAnswer(k)
        course.hear(answer)
        course.run()
    return (tuple(course.seen), course.halt, course.paid, course.world)
