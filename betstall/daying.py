"""Fair or unfair over two days."""

from betstall.judging import judged
from betstall.twodays import joined


def parted(stakes, lists):
    """A row of stakes for lists, the one behind the other, as a row for each list."""
    told = []
    start = 0
    for row in lists:
        told.append(stakes[start:start + len(row)])
        start += len(row)
    return tuple(told)


def judged_days(house, bids, cells, lists):
    """("fair", layers) that bear the joined list, or ("loss", (stakes, later)), two days' stakes that lose surely."""
    kind, told = judged(house, joined(house, bids, cells, lists))
    if kind == "fair":
        return (kind, told)
    many = len(bids)
    return (kind, (told[:many], parted(told[many:], lists)))
