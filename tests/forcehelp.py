"""Forces by the dozen, and their values, found out once more in a plain way."""

import itertools
import random

from shownempty.forces import Force

LETS = {"keep": ("keep",), "drop": ("drop",), "both": ("keep", "drop")}


def some_force(rng):
    """A force with up to 5 things and up to 4 questions."""
    many = rng.randint(2, 5)
    outs = [tuple(sorted(rng.sample(range(many), rng.randint(1, min(2, many))))) for _ in range(rng.randint(1, 3))]
    questions = []
    for name in ("ask", "beg", "cut", "die")[:rng.randint(1, 4)]:
        things = rng.sample(range(many), rng.randint(2, many))
        parts = [[] for _ in range(rng.randint(2, min(4, len(things))))]
        for k, thing in enumerate(things):
            parts[k if k < len(parts) else rng.randrange(len(parts))].append(thing)
        questions.append((name, [tuple(sorted(part)) for part in parts], rng.choice(("keep", "drop", "both", "both"))))
    return Force(many, outs, questions)


def some_forces(number, seed=0):
    rng = random.Random(seed)
    for _ in range(number):
        yield some_force(rng), rng


def readings_let(force):
    """For each part of each question the readings that are let."""
    return [[LETS[word]] * len(parts) for _, parts, word in force.questions]


def first_of(force):
    return tuple(range(force.many)), tuple(range(len(force.questions)))


def ways_of(force, lets, stage):
    """For each question that can be asked, for each part that can be named, the stages behind the readings."""
    left, still = stage
    ways = {}
    for number in still if left not in force.outs else ():
        parts = force.questions[number][1]
        named = [k for k, part in enumerate(parts) if set(part) & set(left)]
        if len(named) > 1:
            rest = tuple(other for other in still if other != number)
            ways[number] = {k: {reading: (tuple(sorted(set(left) & set(parts[k]) if reading == "keep"
                                                       else set(left) - set(parts[k]))), rest)
                                for reading in lets[number][k]} for k in named}
    return ways


def value_of(force, lets, stage, known):
    """The value of a stage, -1 for none."""
    if stage not in known:
        best = 0 if stage[0] in force.outs else 10 ** 6
        for parts in ways_of(force, lets, stage).values():
            worst = 0
            for readings in parts.values():
                values = [value_of(force, lets, behind, known) for behind in readings.values()]
                worst = max(worst, min([value for value in values if value >= 0], default=10 ** 6))
            best = min(best, 1 + worst)
        known[stage] = best if best < 10 ** 6 else -1
    return known[stage]


def stages_of(force, lets):
    """All stages, ascending."""
    found, todo = {first_of(force)}, [first_of(force)]
    while todo:
        for parts in ways_of(force, lets, todo.pop()).values():
            for readings in parts.values():
                for behind in readings.values():
                    if behind not in found:
                        found.add(behind)
                        todo.append(behind)
    return sorted(found)


def steady_of(force):
    """The steady value and the first steady reading that reaches it, by trying out all of them."""
    choices = [list(itertools.product(*lets)) for lets in readings_let(force)]
    found = []
    for readings in itertools.product(*choices):
        lets = [[(reading,) for reading in row] for row in readings]
        value = value_of(force, lets, first_of(force), {})
        if value != -1:
            found.append((value, readings))
    return min(found, default=None)


# Two forces with just so many stages.
THOUSAND = Force(7, ((0,),), (("a", ((0, 1, 2, 5, 6), (3, 4)), "keep"), ("b", ((0, 1, 2, 4, 5), (3, 6)), "keep"),
                              ("c", ((3,), (4,), (0, 1, 2, 6), (5,)), "drop"),
                              ("d", ((0, 2), (6,), (1, 3, 4), (5,)), "both"),
                              ("e", ((0, 4), (2,), (1, 6), (3, 5)), "both"),
                              ("f", ((1, 2, 4, 5), (0,), (3, 6)), "both")))
ONE_MORE = Force(8, ((0,),), (("a", ((2, 6), (0, 1, 3, 4, 5, 7)), "keep"), ("b", ((1, 6), (4,), (0, 2, 3, 5, 7)), "keep"),
                              ("c", ((0, 3, 6), (7,), (1, 4, 5), (2,)), "drop"),
                              ("d", ((0, 3, 4), (1, 5, 6), (2, 7)), "both"),
                              ("e", ((3, 4, 5, 7), (0,), (2, 6), (1,)), "both"),
                              ("f", ((1, 2, 4), (7,), (0, 3, 5, 6)), "both")))
