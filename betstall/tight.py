"""Tightened lists: each bid at the lowest price that its bet has by the list."""

from betstall.judging import fair_gains
from betstall.means import low_price


def tightened(house, bids):
    """The bids, each at the lowest price of its bet by all of them."""
    gains = fair_gains(house, bids)
    prices = [low_price(gains, gains.numbers(), table) for table in gains.tables]
    return tuple([(bet, price) for (bet, asked), price in zip(bids, prices)])


def are_tight(house, bids):
    """Whether each bid's price is the lowest one of its bet."""
    return tightened(house, bids) == bids
