"""What is to blame in an unfair list."""

from betstall.errors import Fair
from betstall.gains import Gains
from betstall.judging import judged_part


def staked(stakes):
    """The numbers of the bids with a stake above 0, rising."""
    return [number for number, stake in enumerate(stakes) if stake[0] > 0]


def without(numbers, one):
    """The numbers but for one."""
    return [number for number in numbers if number != one]


def fewest(gains, numbers):
    """Some of these numbers, of unfair bids, whose bids are unfair, and fair without any one of them."""
    left = list(numbers)
    for number in numbers:
        if number in left:
            kind, told = judged_part(gains, without(left, number))
            # Unfair without it: it goes, and with it all that the loss needs no stakes for.
            if kind == "loss":
                left = staked(told)
    return left


def cause_of(house, bids):
    """A cause of the bids, refused where they are fair."""
    gains = Gains(house, bids)
    kind, told = judged_part(gains, gains.numbers())
    if kind == "fair":
        raise Fair()
    numbers = fewest(gains, staked(told))
    stakes = judged_part(gains, numbers)[1]
    others = [judged_part(gains, without(numbers, number))[1] for number in numbers]
    return (tuple(numbers), tuple([stakes[number] for number in numbers]), tuple(others))
