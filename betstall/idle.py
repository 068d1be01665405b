"""Idle bids: those whose price the others bring about without them."""

from betstall.fractions import less
from betstall.judging import fair_gains
from betstall.means import low_price


def is_idle(gains, bids, number, numbers):
    """Whether the bid of one number is idle among those of these numbers."""
    others = [other for other in numbers if other != number]
    return not less(low_price(gains, others, gains.tables[number]), bids[number][1])


def idle_in(house, bids):
    """The numbers of all bids that are idle, rising."""
    gains = fair_gains(house, bids)
    numbers = gains.numbers()
    return tuple([number for number in numbers if is_idle(gains, bids, number, numbers)])


def without_idle(house, bids):
    """The numbers that are left, rising, where from the last to the first each idle one is left out."""
    gains = fair_gains(house, bids)
    numbers = gains.numbers()
    left = list(numbers)
    for number in reversed(numbers):
        if is_idle(gains, bids, number, left):
            left = [other for other in left if other != number]
    return tuple(left)
