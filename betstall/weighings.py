"""Weighings: a fraction from 0 on for each world of a house, 1 together."""

from betstall.fractions import ONE, ZERO, divided, is_from_zero, minus, plus, times
from betstall.houses import worlds_of
from betstall.kinds import is_row
from betstall.sayings import holds
from betstall.tables import table_of

HALF = (1, 2)


def total_of(shares):
    """The sum of some fractions."""
    total = ZERO
    for share in shares:
        total = plus(total, share)
    return total


def weighs(many, thing):
    """Whether anything is a weighing of so many worlds."""
    if not is_row(thing, many, many) or not all([is_from_zero(share) for share in thing]):
        return False
    return total_of(thing) == ONE


def is_weighing(house, thing):
    """Whether anything is a weighing of the house."""
    return weighs(len(worlds_of(house)), thing)


def weight_of(house, weighing, saying):
    """The weight of the worlds at which a saying holds."""
    worlds = worlds_of(house)
    return total_of([share for world, share in zip(worlds, weighing) if holds(house[0], saying, world)])


def table_mean(weighing, table):
    """The mean of a bet with this table; None where what it hangs on weighs nothing."""
    weight = ZERO
    mean = ZERO
    for share, paid in zip(weighing, table):
        if paid is not None:
            weight = plus(weight, share)
            mean = plus(mean, times(share, paid))
    return None if weight == ZERO else divided(mean, weight)


def mean_of(house, weighing, bet):
    """The mean of a bet; None where its given weighs nothing."""
    return table_mean(weighing, table_of(house, bet))


def mixture(one, other, share=None):
    """The share of the first weighing and the rest of the second, world by world."""
    part = HALF if share is None else share
    rest = minus(ONE, part)
    return tuple([plus(times(part, here), times(rest, there)) for here, there in zip(one, other)])
