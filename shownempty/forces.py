"""Forces: questions by which guests seem to choose, while the conjuror reads their answers as he needs them."""

from shownempty.craft import judge_names
from shownempty.errors import BadMany, BadOut, BadPart, BadQuestion, NoStage
from shownempty.forms import frozen, is_from, is_lot, is_name, is_row, is_whole
from shownempty.search import reached_from
from shownempty.tables import first_wrong

LEAST_MANY = 2
MOST_MANY = 8
MOST_QUESTIONS = 6
LEAST_PARTS = 2
MOST_PARTS = 4
MOST_STAGES = 1000
KEEP = "keep"
DROP = "drop"
# The readings that each word lets, in the order in which they are taken.
READINGS = {"keep": ("keep",), "drop": ("drop",), "both": ("keep", "drop")}
NO_VALUE = -1


class Force:
    """A number of things, the lots of them to which a guest shall be brought, and the questions that he is asked."""

    def __init__(self, many, outs, questions):
        if not is_whole(many, LEAST_MANY, MOST_MANY):
            raise BadMany(many)
        judge_outs(many, outs)
        judge_questions(many, questions)
        self.many = many
        self.outs = frozen(outs)
        self.questions = frozen(questions)

    def __eq__(self, other):
        return (isinstance(other, Force) and self.many == other.many
                and self.outs == other.outs and self.questions == other.questions)


def judge_outs(many, outs):
    """Raises what is wrong with the outs of a force with so many things."""
    if not is_row(outs) or len(outs) == 0:
        raise BadOut(-1)
    for k, out in enumerate(outs):
        if not are_things(out, many):
            raise BadOut(k)


def judge_questions(many, questions):
    """Raises what is wrong with the questions of a force with so many things."""
    if not is_row(questions) or not 1 <= len(questions) <= MOST_QUESTIONS:
        raise BadQuestion(-1)
    for k, question in enumerate(questions):
        if not is_question(question, many):
            raise BadQuestion(k)
    judge_names([question[0] for question in questions])


def are_things(thing, many):
    """Whether it is a lot of at least one of so many things."""
    return is_lot(thing, 0, many - 1) and len(thing) > 0


def is_question(thing, many):
    """Whether it has the form of a question."""
    if not is_row(thing) or len(thing) != 3:
        return False
    name, parts, readings = thing
    if not is_name(name) or not is_row(parts) or not LEAST_PARTS <= len(parts) <= MOST_PARTS:
        return False
    if not all([are_things(part, many) for part in parts]):
        return False
    named = [what for part in parts for what in part]
    return len(set(named)) == len(named) and isinstance(readings, str) and readings in READINGS


class ForceGame:
    """The values of the stages of a force: within how many questions it can surely be done."""

    def __init__(self, force):
        lets = lets_of(force)
        values = values_of_stages(force, lets, MOST_STAGES)
        self.force = force
        self._lets = lets
        self._values = values
        self.table = tuple(sorted([stage + (value,) for stage, value in values.items()]))
        self.least = values[first_stage(force)]

    def __bool__(self):
        return bool(self.least != NO_VALUE)

    def __len__(self):
        return len(self.table)

    def __iter__(self):
        return iter(self.table)

    def value(self, left, still):
        """Within how many questions the force can surely be done from the stage, -1 if it cannot be."""
        return self._values[self._stage(left, still)]

    def plan(self, left, still):
        """The number of the first question by which the value is reached, None unless this is above 0."""
        stage = self._stage(left, still)
        for number in asked_at(self.force, stage):
            if value_asked(self.force, self._lets, stage, number, self._values) == self._values[stage] - 1:
                return number
        return None

    def reading(self, left, still, number, part):
        """How the answer that names this part is read."""
        stage = self._stage(left, still)
        if not is_from(number, 0) or number not in asked_at(self.force, stage):
            raise BadQuestion(number)
        if not is_from(part, 0) or part not in named_at(self.force, stage, number):
            raise BadPart(part)
        found = [(self._values[behind], reading)
                 for reading, behind in read_at(self.force, self._lets, stage, number, part)]
        least = least_value([value for value, _ in found])
        return [reading for value, reading in found if value == least][0]

    def _stage(self, left, still):
        if not is_stage(self.force, left, still) or (frozen(left), frozen(still)) not in self._values:
            raise NoStage((left, still))
        return (frozen(left), frozen(still))


def lets_of(force):
    """For each part of each question the readings that are let."""
    return tuple([(READINGS[readings],) * len(parts) for _, parts, readings in force.questions])


def is_stage(force, left, still):
    """Whether they are a lot of at least one thing and a lot of numbers of questions."""
    return are_things(left, force.many) and is_lot(still, 0, len(force.questions) - 1)


def first_stage(force):
    """The stage at which all things are left and all questions are open."""
    return (tuple(range(force.many)), tuple(range(len(force.questions))))


def asked_at(force, stage):
    """The numbers of the questions that can be asked at a stage, none where the force is done."""
    left, still = stage
    if left in force.outs:
        return []
    return [number for number in still if len(named_at(force, stage, number)) > 1]


def named_at(force, stage, number):
    """The numbers of the parts of a question that can be named at a stage."""
    return [k for k, part in enumerate(force.questions[number][1]) if any([what in part for what in stage[0]])]


def read_at(force, lets, stage, number, part):
    """The pairs (reading, stage) of the readings that are let when this part is named."""
    left, still = stage
    things = force.questions[number][1][part]
    later = tuple([other for other in still if other != number])
    return [(reading, (tuple([what for what in left if (what in things) == (reading == KEEP)]), later))
            for reading in lets[number][part]]


def stages_behind(force, lets, stage):
    """The stages to which the questions, names and readings lead."""
    return [behind for number in asked_at(force, stage) for part in named_at(force, stage, number)
            for _, behind in read_at(force, lets, stage, number, part)]


def value_asked(force, lets, stage, number, values):
    """Within how many questions the force can be done once this one is asked, if these are the values behind it."""
    found = [least_value([values[behind] for _, behind in read_at(force, lets, stage, number, part)])
             for part in named_at(force, stage, number)]
    return NO_VALUE if NO_VALUE in found else max(found)


def value_at(force, lets, stage, values):
    """The value of a stage, if these are the values of those behind it."""
    if stage[0] in force.outs:
        return 0
    best = least_value([value_asked(force, lets, stage, number, values) for number in asked_at(force, stage)])
    return NO_VALUE if best == NO_VALUE else 1 + best


def least_value(values):
    """The least of the values, -1 counting as the greatest."""
    good = [value for value in values if value != NO_VALUE]
    return min(good) if len(good) > 0 else NO_VALUE


def values_of_stages(force, lets, most):
    """The values of all stages; raises that these are more than most (None if any number is let)."""
    def leads(stage):
        return stages_behind(force, lets, stage)

    values = {}
    # Each question that is asked leaves one less, so what lies behind a stage comes ahead of it.
    for stage in sorted(list(reached_from(first_stage(force), leads, most, "stage")), key=number_still):
        values[stage] = value_at(force, lets, stage, values)
    return values


def number_still(stage):
    """How many questions are open at a stage."""
    return len(stage[1])


def judge_force(force, table):
    """None if the table is right, -1 if the first stage is lacking, otherwise the number of the first bad row."""
    values = {}
    for row in table:
        if is_valued(force, row):
            values.setdefault((frozen(row[0]), frozen(row[1])), row[2])
    if first_stage(force) not in values:
        return -1
    return first_wrong([is_valued(force, row) and is_right(force, (frozen(row[0]), frozen(row[1])), row[2], values)
                        for row in table])


def is_valued(force, row):
    """Whether the row is a triple of a stage's two lots and an integer from -1."""
    return is_row(row) and len(row) == 3 and is_stage(force, row[0], row[1]) and is_from(row[2], NO_VALUE)


def is_right(force, stage, value, values):
    """Whether the value is the one that the values behind the stage let it have, and these are all there."""
    lets = lets_of(force)
    if not all([behind in values for behind in stages_behind(force, lets, stage)]):
        return False
    return value == value_at(force, lets, stage, values)
