"""Books: stakes for bids, and what they gain at each world."""

from betstall.bets import pays
from betstall.fractions import ZERO, is_from_zero, minus, plus, times
from betstall.houses import worlds_of
from betstall.kinds import is_row


def are_stakes(bids, thing):
    """Whether anything is stakes for the bids."""
    return is_row(thing, len(bids), len(bids)) and all([is_from_zero(stake) for stake in thing])


def book_gain(letters, bids, stakes, world):
    """What the book of stakes gains at a world, None where it is called off."""
    lives = False
    gain = ZERO
    for (bet, price), stake in zip(bids, stakes):
        # A bid without a stake neither brings the book to life nor gains.
        paid = None if stake == ZERO else pays(letters, bet, world)
        if paid is not None:
            lives = True
            gain = plus(gain, times(stake, minus(paid, price)))
    return gain if lives else None


def gains_of(house, bids, stakes):
    """What the book of stakes gains at each world of the house, None where it is called off."""
    return tuple([book_gain(house[0], bids, stakes, world) for world in worlds_of(house)])


def lose_surely(gains):
    """Whether some of the gains are not None, and all that are not are below 0."""
    alive = [gain for gain in gains if gain is not None]
    return len(alive) > 0 and all([gain[0] < 0 for gain in alive])


def right_loss(house, bids, thing):
    """Whether anything is stakes that lose surely by the bids."""
    return are_stakes(bids, thing) and lose_surely(gains_of(house, bids, thing))
