"""Games for a price: one player picks ways that cost something, the other one wants him to pay, or to be lost.

A game is a dict that tells for each position who goes on, and the pairs (price, position) among which he chooses: PICKS
(the first player), MEETS (the other one) or DRAWS (the other one, too, by a choice that is not counted in delays). The
choices of the other player cost nothing. Who picks, but has no way, is lost; where the other one has no way, all is
well for ever.
"""

PICKS = "picks"
MEETS = "meets"
DRAWS = "draws"
LOST = -2
NO_BOUND = -1


def backs_of(game):
    """For each position the pairs (price, position) of the ways by which it is come to."""
    backs = {position: [] for position in game}
    for position, (_, ways) in game.items():
        for price, behind in ways:
            backs[behind].append((price, position))
    return backs


def delays_of(game):
    """For each lost position, the least number of choices of the other player by which he brings about the loss."""
    backs = backs_of(game)
    left = {position: len(ways) for position, (_, ways) in game.items()}
    delays = {}
    delay = 0
    fresh = [position for position, (who, ways) in game.items() if who == PICKS and len(ways) == 0]
    while len(fresh) > 0:
        later = []
        while len(fresh) > 0:
            position = fresh.pop()
            if position not in delays:
                delays[position] = delay
                for _, before in backs[position]:
                    left[before] -= 1
                    if game[before][0] == MEETS:
                        later.append(before)
                    elif game[before][0] == DRAWS or left[before] == 0:
                        fresh.append(before)
        fresh = later
        delay += 1
    return delays


def values_of(game, lost):
    """The least price within which one can stay out of the lost positions, for each position: LOST for a lost one.

    NO_BOUND where there is no such price.
    """
    backs = backs_of(game)
    values = {position: LOST for position in lost}
    left = {position: True for position in game if position not in lost}
    price = 0
    while price is not None:
        kept = kept_within(game, backs, left, values, price)
        for position in kept:
            values[position] = price
            del left[position]
        price = next_price(game, left, values)
    for position in left:
        values[position] = NO_BOUND
    return values


def next_price(game, left, values):
    """The least price for which some position left can pick a way to a position with a value, None if none can."""
    # What has a way for no more than the last price has been kept within it, so the next one is always greater.
    found = [price + values[behind] for position in left if game[position][0] == PICKS
             for price, behind in game[position][1] if values.get(behind, LOST) >= 0]
    return min(found) if len(found) > 0 else None


def kept_within(game, backs, left, values, price):
    """The most of the positions left among which one can stay, or come to lesser values, within the price."""
    spare = {position: spare_ways(game[position], left, values, price) for position in left}
    leaving = [position for position in left if spare[position] < 0]
    k = 0
    while k < len(leaving):
        for cost, before in backs[leaving[k]]:
            if cost == 0 and before in left:
                spare[before] -= 1
                if spare[before] == -1:
                    leaving.append(before)
        k += 1
    return [position for position in left if spare[position] >= 0]


def spare_ways(turn, left, values, price):
    """How many of the good ways of a turn can become bad while one still stays within the price."""
    who, ways = turn
    goods = len([behind for cost, behind in ways
                 if cost == 0 and behind in left or 0 <= values.get(behind, LOST) <= price - cost])
    return goods - 1 if who == PICKS else goods - len(ways)


def is_reached(value, price, after):
    """Whether the value of a position is reached by a way for this price to a position with that value.

    Where there is no bound, any way to a position that is not lost will do; nothing reaches the value of a lost one.
    """
    if value == NO_BOUND:
        return after != LOST
    return after >= 0 and value == price + after


def forced_further(game, before):
    """What the other player can force from each position, if he can force this from each with a choice less.

    None stands for the loss; for no choice at all, nothing (None) has been forced before. The positions to which a
    PICKS leads come ahead of it in the game, and there is no DRAWS.
    """
    forced = {}
    for position, (who, ways) in game.items():
        if who == PICKS:
            found = [price + forced[behind] for price, behind in ways if forced[behind] is not None]
            forced[position] = min(found) if len(found) > 0 else None
        elif before is None or len(ways) == 0:
            forced[position] = 0
        else:
            found = [before[behind] for _, behind in ways]
            forced[position] = None if None in found else max(found)
    return forced
