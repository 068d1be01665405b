"""What each of some bids gains at each world, in whole numbers."""

from betstall.fractions import ONE, common, lowest, minus
from betstall.houses import worlds_of
from betstall.tables import table_at


def whole(row):
    """A row of fractions and Nones as ints without a common part, and the fraction it was taken times for that."""
    bottom = 1
    for one in row:
        if one is not None:
            bottom = bottom // common(bottom, one[1]) * one[1]
    tops = [None if one is None else one[0] * (bottom // one[1]) for one in row]
    shared = 0
    for top in tops:
        if top is not None and top != 0:
            shared = common(abs(top), shared)
    if shared == 0:
        return tops, ONE
    return [None if top is None else top // shared for top in tops], lowest(bottom, shared)


def lowered(table, price):
    """What a bet with this table pays less the price, None where it is called off."""
    return [None if paid is None else minus(paid, price) for paid in table]


class Gains:
    """Bids by what they gain: a row of ints for each, None where it is called off, and what it was taken times."""

    def __init__(self, house, bids):
        worlds = worlds_of(house)
        self.many = len(worlds)
        self.tables = [table_at(house[0], worlds, bet) for bet, price in bids]
        self.rows = []
        self.factors = []
        for table, (bet, price) in zip(self.tables, bids):
            row, factor = whole(lowered(table, price))
            self.rows.append(row)
            self.factors.append(factor)

    def numbers(self):
        """The numbers of all bids."""
        return list(range(len(self.rows)))

    def places(self):
        """The places of all worlds."""
        return list(range(self.many))

    def live_at(self, numbers, place):
        """Whether some of these bids live at the world of this place."""
        return any([self.rows[number][place] is not None for number in numbers])

    def dead_in(self, numbers, weighing):
        """Those of these bids that live at no world of weight."""
        heavy = [place for place, share in enumerate(weighing) if share[0] > 0]
        return [number for number in numbers if not any([self.live_at([number], place) for place in heavy])]

    def entry(self, number, place):
        """The row's int at a place, 0 where the bid is called off."""
        gain = self.rows[number][place]
        return 0 if gain is None else gain
