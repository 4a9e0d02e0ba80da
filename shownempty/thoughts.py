"""Thoughts: standings of an act, with what a guest holds possible there."""

from shownempty.acts import followers_of, is_standing, judge_start, rest_of
from shownempty.craft import sight_of
from shownempty.errors import Unlike
from shownempty.forms import frozen, is_row, is_whole
from shownempty.guests import mind_behind
from shownempty.search import answered, least_row, least_rows
from shownempty.tables import first_wrong
from shownempty.worlds import is_world

MOST_THOUGHTS = 600


def judge_start_and_guest(act, start, guest):
    """Raises what is wrong with the arguments."""
    judge_start(act, start)
    if not guest.craft == act.craft:
        raise Unlike("craft")


def least_thoughts(act, start, guest):
    """The least answers that lead to each thought, for all to which answers lead."""
    def ways(thought):
        return answered(thoughts_behind(act, guest, thought))

    return least_rows([("", (0, start, guest.beginning))], ways, MOST_THOUGHTS, "thought")


def thoughts_behind(act, guest, thought):
    """The thoughts to which a thought leads."""
    number, world, mind = thought
    followers = followers_of(act, (number, world))
    event = event_at(act, number, followers)
    if event is not None:
        mind = mind_behind(guest, mind, event)
    return [follower + (mind,) for follower in followers]


def event_at(act, number, followers):
    """The stroke that the guests see at the cue if it has these followers, None if they see none."""
    cue = act.cues[number]
    if cue[0] != "do" or len(followers) == 0:
        return None
    return (cue[1], sight_of(act.craft, cue[1], followers[0][1]))


def least_to_bad(act, thoughts, rest, good):
    """The least answers that lead to a thought with this rest at which the mind is not good, None if there is none."""
    return least_row([answers for (number, world, mind), answers in thoughts.items()
                      if rest_of(act, (number, world)) == rest and not good(mind)])


def is_mind(guest, thing):
    """Whether it is an ascending tuple of pairs of a world and a number of sleights, no world twice."""
    if not is_row(thing) or not all([is_held_possible(guest, pair) for pair in thing]):
        return False
    worlds = [frozen(pair[0]) for pair in thing]
    return all([worlds[k] < worlds[k + 1] for k in range(len(worlds) - 1)])


def is_held_possible(guest, thing):
    """Whether it is a pair of a world and a number of sleights of which the guest thinks."""
    if not is_row(thing) or len(thing) != 2:
        return False
    return is_world(thing[0], guest.craft.size) and is_whole(thing[1], 0, guest.most)


def is_thought(act, guest, thing):
    """Whether it is a triple of a standing and a mind."""
    return is_row(thing) and len(thing) == 3 and is_standing(act, thing[:2]) and is_mind(guest, thing[2])


def judge_thoughts(act, start, guest, table, rest, good):
    """As for a table of thoughts in which each mind is to be good wherever the standing has this rest."""
    judge_start_and_guest(act, start, guest)
    there = {frozen(row): True for row in table if is_thought(act, guest, row)}
    if (0, frozen(start), guest.beginning) not in there:
        return -1
    return first_wrong([is_thought(act, guest, row) and is_right(act, guest, frozen(row), there, rest, good)
                        for row in table])


def is_right(act, guest, thought, there, rest, good):
    """Whether the thoughts behind this one are there, and the mind is good if the standing has this rest."""
    number, world, mind = thought
    if rest_of(act, (number, world)) == rest and not good(mind):
        return False
    return all([behind in there for behind in thoughts_behind(act, guest, thought)])
