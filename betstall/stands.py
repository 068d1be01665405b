"""Stands of a hall: rows (house, purses, tickets, lists, many), and what holders have there at each world."""

from betstall.bids import is_bid
from betstall.fractions import is_fraction, less, plus, turned_about
from betstall.houses import is_house, worlds_of
from betstall.kinds import is_number, is_row
from betstall.tickets import brought, is_ticket

MOST_TICKETS = 12
MOST_POSTED = 6


def are_purses(thing):
    """Whether anything is a row of purses, one for each holder."""
    return is_row(thing, 2, 6) and all([is_fraction(purse) for purse in thing])


def are_tickets(house, holders, many, thing):
    """Whether anything is a row of tickets of so many holders, their numbers rising and below many."""
    if not is_row(thing, 0, MOST_TICKETS):
        return False
    if not all([is_ticket(house, holders, many, ticket) for ticket in thing]):
        return False
    return all([one[0] < other[0] for one, other in zip(thing, thing[1:])])


def is_list(house, thing):
    """Whether anything is bids of the house that a holder may have posted, fair or not."""
    return is_row(thing, 0, MOST_POSTED) and all([is_bid(house, bid) for bid in thing])


def are_lists(house, holders, thing):
    """Whether anything is a row with a list for each of so many holders."""
    return is_row(thing, holders, holders) and all([is_list(house, row) for row in thing])


def worths_at(letters, purses, tickets, world):
    """What each holder has at a world, purse and tickets together."""
    told = list(purses)
    for ticket in tickets:
        long, short = ticket[1], ticket[2]
        gain = brought(letters, ticket, world)
        told[long] = plus(told[long], gain)
        told[short] = plus(told[short], turned_about(gain))
    return told


def covered(house, purses, tickets):
    """Whether no holder has less than 0 at any world of the house."""
    for world in worlds_of(house):
        if any([worth[0] < 0 for worth in worths_at(house[0], purses, tickets, world)]):
            return False
    return True


def is_stand(thing):
    """Whether anything is a stand of a hall."""
    if not is_row(thing, 5, 5):
        return False
    house, purses, tickets, lists, many = thing
    if not is_house(house) or not are_purses(purses) or not is_number(many) or many < 0:
        return False
    holders = len(purses)
    if not are_tickets(house, holders, many, tickets) or not are_lists(house, holders, lists):
        return False
    return covered(house, purses, tickets)


def worth_at(stand, holder, world):
    """What a holder has at a world, purse and tickets together."""
    house, purses, tickets, lists, many = stand
    own = [ticket for ticket in tickets if holder in ticket[1:3]]
    return worths_at(house[0], purses, own, world)[holder]


def worst_of(stand, holder):
    """The least that a holder has at any world of the house, and the first world at which it is so."""
    worst = None
    for world in worlds_of(stand[0]):
        worth = worth_at(stand, holder, world)
        if worst is None or less(worth, worst[0]):
            worst = (worth, world)
    return worst


def first_stand(house, purses):
    """The stand without tickets and bids."""
    return (house, purses, (), ((),) * len(purses), 0)
