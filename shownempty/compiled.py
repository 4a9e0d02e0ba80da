"""The acts to which scripts are led."""

from shownempty.acts import Act


def act_of(script):
    """The act to which a script is led."""
    return Act(script.craft, cues_of_body(script.body, 0) + [("end",)])


def cues_of_body(body, begin):
    """The cues of a body whose first one has this number."""
    cues = []
    for statement in body:
        cues.extend(cues_of(statement, begin + len(cues)))
    return cues


def cues_of(statement, begin):
    """The cues of a statement whose first one has this number."""
    what = statement[0]
    if what == "either":
        return cues_of_either(statement[1], statement[2], begin)
    if what == "again":
        return cues_of_again(statement[1], begin)
    if what == "peek":
        return cues_of_peek(statement, begin)
    return [("end",)] if what == "stop" else [statement]


def cues_of_either(body, other, begin):
    """An ask, the first body, and past a go the other one."""
    first = cues_of_body(body, begin + 1)
    yes = begin + 1 + len(first) + 1
    second = cues_of_body(other, yes)
    return [("ask", begin + 1, yes)] + first + [("go", yes + len(second))] + second


def cues_of_again(body, begin):
    """The body, and an ask that can lead back to its beginning."""
    cues = cues_of_body(body, begin)
    return cues + [("ask", begin + len(cues) + 1, begin)]


def cues_of_peek(statement, begin):
    """A glance, the other body, and past a go the first one."""
    _, place, kind, body, other = statement
    second = cues_of_body(other, begin + 1)
    target = begin + 1 + len(second) + 1
    first = cues_of_body(body, target)
    return [("glance", place, kind, target)] + second + [("go", target + len(first))] + first
