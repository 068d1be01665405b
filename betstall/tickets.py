"""Tickets: rows (number, long, short, bet, price, stake), bets that two holders have with one another."""

from betstall.bets import is_bet, pays
from betstall.fractions import ZERO, is_fraction, minus, times
from betstall.houses import may_be
from betstall.kinds import is_number, is_row


def is_place(many, thing):
    """Whether anything is one of so many places, from 0."""
    return is_number(thing) and 0 <= thing < many


def are_two(many, one, other):
    """Whether two things are two unlike places, of so many."""
    return is_place(many, one) and is_place(many, other) and one != other


def is_above_zero(thing):
    """Whether anything is a fraction above 0."""
    return is_fraction(thing) and thing[0] > 0


def lives(house, thing):
    """Whether anything is a bet over the letters of the house that lives at some world of it."""
    return is_bet(house[0], thing) and may_be(house, thing[1])


def is_ticket(house, holders, many, thing):
    """Whether anything is a ticket of so many holders, its number below many."""
    if not is_row(thing, 6, 6):
        return False
    number, long, short, bet, price, stake = thing
    if not is_place(many, number) or not are_two(holders, long, short):
        return False
    return lives(house, bet) and is_fraction(price) and is_above_zero(stake)


def brought(letters, ticket, world):
    """What a ticket brings its long at a world, 0 where its bet is called off."""
    number, long, short, bet, price, stake = ticket
    paid = pays(letters, bet, world)
    return ZERO if paid is None else times(stake, minus(paid, price))


def with_stake(ticket, stake):
    """The ticket with another stake."""
    return ticket[:5] + (stake,)


def ticket_of(tickets, number):
    """The ticket that has anything as its number; None where none has."""
    # A truth is equal to a number, but is none.
    if is_number(number):
        for ticket in tickets:
            if ticket[0] == number:
                return ticket
    return None


def without(tickets, gone):
    """The tickets but for those with one of some numbers."""
    return tuple([ticket for ticket in tickets if ticket[0] not in gone])


def exchanged(tickets, new):
    """The tickets with a new one in the place of the one that has its number."""
    return tuple([new if ticket[0] == new[0] else ticket for ticket in tickets])
