"""Layers: weighings one behind another, for what weighs nothing in the first ones."""

from betstall.fractions import ZERO, less
from betstall.houses import worlds_of
from betstall.kinds import is_row
from betstall.tables import table_of, tables_of
from betstall.weighings import table_mean, weight_of, weighs

MOST_LAYERS = 40


def are_layers(house, thing):
    """Whether anything is layers of the house."""
    many = len(worlds_of(house))
    return is_row(thing, 0, MOST_LAYERS) and all([weighs(many, layer) for layer in thing])


def layer_of(house, layers, saying):
    """The number of the first layer in which a saying weighs something; None where there is none."""
    for at, weighing in enumerate(layers):
        if weight_of(house, weighing, saying) != ZERO:
            return at
    return None


def table_mean_in(layers, table):
    """The mean, in layers, of a bet with this table."""
    # The mean is None just in the layers that come ahead of the given's own.
    for weighing in layers:
        mean = table_mean(weighing, table)
        if mean is not None:
            return mean
    return None


def mean_in(house, layers, bet):
    """The mean of a bet in the layer of its given; None where there is none."""
    return table_mean_in(layers, table_of(house, bet))


def bear(layers, table, price):
    """Whether layers bear a bid at this price on a bet with this table."""
    mean = table_mean_in(layers, table)
    return mean is not None and not less(mean, price)


def right_layers(house, bids, thing):
    """Whether anything is layers that bear all of the bids."""
    if not are_layers(house, thing):
        return False
    tables = tables_of(house, bids)
    return all([bear(thing, table, price) for table, (bet, price) in zip(tables, bids)])
