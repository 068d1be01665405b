"""Going between two stalls: stakes with both that win surely, or layers that bear both lists."""

from betstall.bids import MOST_BIDS
from betstall.books import are_stakes, gains_of, lose_surely
from betstall.errors import TooMany
from betstall.judging import judged
from betstall.kinds import is_row


def right_between(house, one, other, thing):
    """Whether anything is stakes for the one list and for the other that lose surely by both together."""
    if not is_row(thing, 2, 2):
        return False
    mine, theirs = thing
    # Each row is held against its own list: a stake too few here isn't made up for by one too many there.
    if not are_stakes(one, mine) or not are_stakes(other, theirs):
        return False
    return lose_surely(gains_of(house, one + other, mine + theirs))


def between(house, one, other):
    """("fair", layers) that bear both lists, or ("gain", (mine, theirs)), stakes that lose surely by both."""
    if len(one) + len(other) > MOST_BIDS:
        raise TooMany()
    kind, told = judged(house, one + other)
    if kind == "fair":
        return (kind, told)
    return ("gain", (told[:len(one)], told[len(one):]))
