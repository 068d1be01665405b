"""Tables: what bets pay at each world of a house."""

from betstall.bets import pays
from betstall.houses import worlds_of


def table_at(letters, worlds, bet):
    """What a bet pays at each of some worlds, None where it is called off."""
    return tuple([pays(letters, bet, world) for world in worlds])


def table_of(house, bet):
    """What a bet pays at each world of a house, None where it is called off."""
    return table_at(house[0], worlds_of(house), bet)


def tables_of(house, bids):
    """The table of each bid's bet in a house."""
    # The worlds are sought once for all bids: that is most of the work.
    worlds = worlds_of(house)
    return [table_at(house[0], worlds, bet) for bet, price in bids]


def alike(house, one, other):
    """Whether two bets have the same table in a house."""
    return table_of(house, one) == table_of(house, other)
