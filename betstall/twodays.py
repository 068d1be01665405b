"""Two days: today's bids, and behind them a list of bids for each cell."""

from betstall.bets import called_off
from betstall.bids import MOST_BIDS
from betstall.books import are_stakes, book_gain, lose_surely
from betstall.errors import TooMany
from betstall.fractions import plus
from betstall.houses import worlds_of
from betstall.kinds import is_row
from betstall.sayings import holds


def joined(house, bids, cells, lists):
    """Today's bids, and behind them each later one, called off besides where its cell doesn't hold."""
    later = [(called_off(bet, cell), price) for cell, row in zip(cells, lists) for bet, price in row]
    if len(bids) + len(later) > MOST_BIDS:
        raise TooMany()
    return bids + tuple(later)


def gain_over(letters, bids, stakes, days, world):
    """What today's book and that of the world's cell gain there, None where both are called off."""
    gain = book_gain(letters, bids, stakes, world)
    for cell, row, shares in days:
        further = book_gain(letters, row, shares, world) if holds(letters, cell, world) else None
        if further is not None:
            gain = further if gain is None else plus(gain, further)
    return gain


def gains_over(house, bids, cells, lists, stakes, later):
    """What two days' stakes gain at each world of the house, None where they are called off."""
    days = list(zip(cells, lists, later))
    return tuple([gain_over(house[0], bids, stakes, days, world) for world in worlds_of(house)])


def are_days(bids, lists, thing):
    """Whether anything is two days' stakes for today's bids and the lists."""
    if not is_row(thing, 2, 2):
        return False
    stakes, later = thing
    if not are_stakes(bids, stakes) or not is_row(later, len(lists), len(lists)):
        return False
    return all([are_stakes(row, shares) for row, shares in zip(lists, later)])


def right_days(house, bids, cells, lists, thing):
    """Whether anything is two days' stakes that live at some world and lose wherever they live."""
    if not are_days(bids, lists, thing):
        return False
    stakes, later = thing
    return lose_surely(gains_over(house, bids, cells, lists, stakes, later))
