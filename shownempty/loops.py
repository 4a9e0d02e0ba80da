"""Loops: rows of answers that lead from a standing at an ask back to it."""

from shownempty.acts import followers_of, rest_of, run_of


def price_at(act, standing):
    """The price of the stroke that is done at the standing, 0 if none is."""
    cue = act.cues[standing[0]]
    if cue[0] != "do" or rest_of(act, standing) == "stuck":
        return 0
    return act.craft.price_of(cue[1], cue[2])


def greatest_sums(act, worths):
    """For each standing the greatest sum of worths from it on, whatever is answered; None if some have no greatest."""
    followers = {standing: followers_of(act, standing) for standing in worths}
    sums = {standing: 0 for standing in worths}
    # Between two answers the numbers of the cues rise: so a whole run is summed up in one round.
    order = sorted(list(worths), reverse=True)
    # Without a loop of some worth no standing comes twice on a best way, so each round but the last one is used up.
    for _ in range(len(order) + 1):
        risen = False
        for standing in order:
            best = worths[standing] + max([0] + [sums[follower] for follower in followers[standing]])
            if best > sums[standing]:
                sums[standing] = best
                risen = True
        if not risen:
            return sums
    return None


def first_loop(standings, dear):
    """The least answers behind which the play rests at a standing that has a loop, and its least one.

    Only loops with a price above 0 count if they are to be dear. None if there is no loop that counts.
    """
    turns = turns_of(standings)
    asks = sorted([(len(standings[standing]), standings[standing], standing) for standing in turns])
    for _, answers, standing in asks:
        loop = least_loop(turns, standing, dear)
        if loop is not None:
            return (answers, loop)
    return None


def turns_of(standings):
    """For each standing at an ask, for each answer, the price of the run behind it and the standing where it rests."""
    act = standings.act
    asks = [standing for standing in standings if rest_of(act, standing) == "ask"]
    return {ask: [turn_from(act, follower) for follower in followers_of(act, ask)] for ask in asks}


def turn_from(act, standing):
    """The price of the run from the standing, and the standing where it rests."""
    run = run_of(act, standing)
    return (sum([price_at(act, passed) for passed in run]), run[-1])


def least_loop(turns, first, dear):
    """The least loop of a standing at an ask, with a price above 0 if it is to be dear; None if there is none."""
    # A state tells whether the way up to there already has all that makes it count.
    rows = {(first, False): ""}
    states = [(first, False)]
    k = 0
    while k < len(states):
        standing, counts = states[k]
        for answer, (price, rest) in zip("01", turns[standing]):
            state = (rest, counts or price > 0 or not dear)
            if rest in turns and state not in rows:
                rows[state] = rows[states[k]] + answer
                states.append(state)
        k += 1
    return rows.get((first, True))
