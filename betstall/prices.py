"""The lowest and the highest price of a bet by a list of bids, each with its paper."""

from betstall.bets import turned
from betstall.errors import NoBet
from betstall.fractions import turned_about
from betstall.houses import may_be
from betstall.judging import fair_gains, judged
from betstall.means import low_paper
from betstall.tables import table_of


def low_of(house, bids, bet):
    """The price paper of the bids and the bet."""
    gains = fair_gains(house, bids)
    if not may_be(house, bet[1]):
        raise NoBet()
    return low_paper(gains, table_of(house, bet))


def high_of(house, bids, bet):
    """The highest price of the bet, and the rest of the turned bet's price paper."""
    price, layers, stakes, more = low_of(house, bids, turned(bet))
    return (turned_about(price), layers, stakes, more)


def takes(house, bids, bid):
    """Whether the bids are fair with one bid more; refused where they are unfair without it."""
    fair_gains(house, bids)
    return judged(house, bids + (bid,))[0] == "fair"
