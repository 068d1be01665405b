"""Layers on some worlds alone, in which as many bids as can be have means that are no less than their prices."""

from betstall.fractions import ZERO, lowest, times
from betstall.simplex import most_of


def weighing_of(gains, places, weights):
    """The weighing that has these weights, ints from 0 on and not all 0, at these places."""
    total = sum(weights)
    told = [ZERO] * gains.many
    for place, weight in zip(places, weights):
        told[place] = lowest(weight, total)
    return tuple(told)


def stakes_of(gains, numbers, shares):
    """Stakes for all bids: for these numbers such as were told for whole rows, 0 for the others."""
    told = [ZERO] * len(gains.rows)
    for number, share in zip(numbers, shares):
        told[number] = times(share, gains.factors[number])
    return tuple(told)


def borne_or_losing(gains, numbers, places):
    """Weights of the places, not all 0, by which none of these bids loses, and None; or None and stakes.

    By the stakes these bids lose at each of the places.
    """
    rows = [[-gains.entry(number, place) for place in places] for number in numbers]
    # Bounds above 0 keep the first steps from stalling. Weights that can grow without end lose nothing,
    # whatever the bounds; where none can, the prices of the rows bring each place what it wants.
    board, column = most_of(rows, [1] * len(rows), [1] * len(places))
    if column is not None:
        return board.ray(column), None
    return None, stakes_of(gains, numbers, [lowest(price, board.scale) for price in board.prices()])


def freed(gains, numbers, places):
    """Layers that weigh these places alone and bear as many of these bids as can be, the numbers left over, stakes.

    By the stakes, which are for the bids left over alone, these lose at each of
    the places at which one of them lives; so no layers on these places bear one of them.
    """
    layers = []
    left = list(numbers)
    while left:
        here = [place for place in places if gains.live_at(left, place)]
        weights, stakes = borne_or_losing(gains, left, here)
        if weights is None:
            return layers, left, stakes
        weighing = weighing_of(gains, here, weights)
        layers.append(weighing)
        left = gains.dead_in(left, weighing)
    return layers, left, stakes_of(gains, [], [])
