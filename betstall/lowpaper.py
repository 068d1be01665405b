"""Price papers, looked over without seeking anything."""

from betstall.bets import pays
from betstall.books import are_stakes, book_gain
from betstall.fractions import ZERO, is_fraction, less, minus
from betstall.houses import worlds_of
from betstall.kinds import is_row
from betstall.layers import mean_in, right_layers


def right_at(letters, bids, bet, paper, world):
    """Whether a paper's stakes and more gain no more at a world than they may."""
    price, layers, stakes, more = paper
    gain = book_gain(letters, bids, stakes, world)
    reached = ZERO if gain is None else gain
    paid = pays(letters, bet, world)
    if paid is not None:
        return not less(minus(paid, price), reached)
    further = book_gain(letters, bids, more, world)
    # Where no bid with a stake in either of them lives, nothing is asked.
    if gain is None and further is None:
        return True
    return reached[0] <= 0 and further is not None and further[0] < 0


def right_low(house, bids, bet, thing):
    """Whether anything is a price paper for the bids and the bet."""
    if not is_row(thing, 4, 4):
        return False
    price, layers, stakes, more = thing
    if not is_fraction(price) or not are_stakes(bids, stakes) or not are_stakes(bids, more):
        return False
    if not right_layers(house, bids, layers) or mean_in(house, layers, bet) != price:
        return False
    return all([right_at(house[0], bids, bet, thing, world) for world in worlds_of(house)])
