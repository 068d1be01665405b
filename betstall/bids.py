"""Bids: pairs (bet, price) of a house, what a stall gives for a bet that can live there."""

from betstall.bets import is_bet, turned
from betstall.fractions import is_fraction, turned_about
from betstall.houses import may_be
from betstall.kinds import is_row

MOST_BIDS = 12


def is_bid(house, thing):
    """Whether anything is a bid of the house."""
    if not is_row(thing, 2, 2):
        return False
    bet, price = thing
    if not is_fraction(price) or not is_bet(house[0], bet):
        return False
    return may_be(house, bet[1])


def are_bids(house, thing):
    """Whether anything is a row of bids of the house."""
    return is_row(thing, 0, MOST_BIDS) and all([is_bid(house, bid) for bid in thing])


def both_ways(bet, price):
    """The bids of a bet and of the turned bet, by which its mean is the price."""
    return ((bet, price), (turned(bet), turned_about(price)))
