"""The least mean that a bet has in layers that bear bids, with all that proves it."""

from betstall.fractions import divided, less, lowest, plus
from betstall.freeing import freed, stakes_of, weighing_of
from betstall.gains import lowered, whole
from betstall.simplex import most_of


def least_paid(table):
    """The least that a bet with this table pays where it lives, which is somewhere."""
    least = None
    for paid in table:
        if paid is not None and (least is None or less(paid, least)):
            least = paid
    return least


def places_where(table, alive):
    """The places at which a bet with this table lives, or those at which it is called off."""
    return [place for place, paid in enumerate(table) if (paid is not None) == alive]


def least_mean(gains, left, table):
    """The least mean, a weighing that has it and by which none of the bids left loses, and stakes for these.

    The stakes gain at most what the bet pays less that mean, and at most 0
    where it is called off. Some stakes for the bids left lose wherever one of them lives and the bet doesn't.
    """
    least = least_paid(table)
    # Counted from the least on, all bounds are from 0 on, and so is what is sought.
    bounds, factor = whole(lowered(table, least))
    places = [place for place, bound in enumerate(bounds) if bound is not None or gains.live_at(left, place)]
    rows = []
    for place in places:
        rows.append([gains.entry(number, place) for number in left] + [0 if bounds[place] is None else 1])
    here = [0 if bounds[place] is None else bounds[place] for place in places]
    board, column = most_of(rows, here, [0] * len(left) + [1])
    shares = [divided(lowest(amount, board.scale), factor) for amount in board.amounts()]
    return plus(least, shares[-1]), weighing_of(gains, places, board.prices()), stakes_of(gains, left, shares[:-1])


def low_price(gains, numbers, table):
    """The lowest price, by the bids of these numbers, of a bet with this table."""
    layers, left, more = freed(gains, numbers, places_where(table, False))
    return least_mean(gains, left, table)[0]


def low_paper(gains, table):
    """The price paper of all bids and a bet with this table."""
    # Layers that weigh nothing of the bet's given come first: a bid that they bear says nothing of the bet.
    first, left, more = freed(gains, gains.numbers(), places_where(table, False))
    price, weighing, stakes = least_mean(gains, left, table)
    last = freed(gains, gains.dead_in(left, weighing), gains.places())[0]
    return (price, tuple(first + [weighing] + last), stakes, more)
