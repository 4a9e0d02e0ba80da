"""Games for a price: one player picks ways that cost something, the other one wants him to pay, or to be lost.

A game is a dict that tells for each position who goes on, PICKS (the first player) or MEETS (the other one), and the
pairs (price, position) among which he chooses. Who picks, but has no way, is lost; where the other one has no way, all
is well for ever. The positions stand in an order in which those to which a PICKS leads come ahead of it.
"""

PICKS = "picks"
MEETS = "meets"
LOST = -2
NO_BOUND = -1
GREATEST_PRICE = 9


def delays_of(game):
    """For each lost position, the least number of choices of the other player by which he brings about the loss."""
    delays = {}
    delay = 0
    found = True
    # Without a position of some delay there is none of a greater one.
    while found:
        found = False
        for position, (who, ways) in game.items():
            if position not in delays and is_lost(who, [delays.get(behind, delay + 1) for _, behind in ways], delay):
                delays[position] = delay
                found = True
        delay += 1
    return delays


def is_lost(who, delays, delay):
    """Whether a position is lost within this delay, if those to which it leads have these."""
    if who == PICKS:
        return all([behind <= delay for behind in delays])
    return any([behind < delay for behind in delays])


def values_of(game, lost):
    """The least price within which one can stay out of the lost positions, for each position: LOST for a lost one.

    NO_BOUND where there is no such price.
    """
    values = {position: LOST for position in lost}
    left = [position for position in game if position not in lost]
    price = 0
    quiet = 0
    # What can be kept within a price hangs on what can be kept within it less the prices of single ways: when nothing
    # has been added for as many prices as a way can have, nothing ever will be.
    while len(left) > 0 and quiet < GREATEST_PRICE:
        kept = kept_within(game, left, values, price)
        for position in kept:
            values[position] = price
        left = [position for position in left if position not in kept]
        quiet = quiet + 1 if len(kept) == 0 else 0
        price += 1
    for position in left:
        values[position] = NO_BOUND
    return values


def kept_within(game, left, values, price):
    """The most of the positions left among which one can stay, or come to lesser values, within the price."""
    kept = {position: True for position in left}
    shrunk = True
    while shrunk:
        shrunk = False
        for position in left:
            if position in kept and not is_kept(game[position], kept, values, price):
                del kept[position]
                shrunk = True
    return kept


def is_kept(turn, kept, values, price):
    """Whether one can stay within the price at a position with this turn."""
    who, ways = turn
    good = [cost == 0 and behind in kept or 0 <= values.get(behind, LOST) <= price - cost for cost, behind in ways]
    return any(good) if who == PICKS else all(good)


def forced_further(game, before):
    """What the other player can force from each position, if he can force this from each with a choice less.

    None stands for the loss; for no choice at all, nothing (None) has been forced before.
    """
    forced = {}
    for position, (who, ways) in game.items():
        if who == PICKS:
            found = [price + forced[behind] for price, behind in ways if forced[behind] is not None]
            forced[position] = min(found) if len(found) > 0 else None
        elif before is None or len(ways) == 0:
            forced[position] = 0
        else:
            found = [before[behind] for _, behind in ways]
            forced[position] = None if None in found else max(found)
    return forced
