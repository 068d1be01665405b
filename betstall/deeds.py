"""Deeds: what holders of a hall do, each refused as its row tells, or done with a new stand behind it."""

from betstall.clearing import balances_of, matched, rest_of
from betstall.errors import NoBet, NoCover, NoDeed, NoHolder, NoSaying, NoStake, NotAlike, NoTicket, TooMany
from betstall.fractions import is_fraction, less, minus, plus
from betstall.houses import narrowed, worlds_of
from betstall.judging import fair_gains
from betstall.kinds import is_number
from betstall.news import carried_on
from betstall.sayings import is_saying
from betstall.stands import MOST_TICKETS, covered, is_list
from betstall.tickets import (are_two, brought, exchanged, is_above_zero, is_place, lives, ticket_of, with_stake,
                              without)


def sure(stand):
    """The stand itself, refused where some holder would have less than 0 at some world."""
    house, purses, tickets, lists, many = stand
    if not covered(house, purses, tickets):
        raise NoCover()
    return stand


def few_enough(tickets):
    """The tickets themselves, refused where they are more than may stand."""
    if len(tickets) > MOST_TICKETS:
        raise TooMany()
    return tickets


def standing(stand, number):
    """The ticket that has anything as its number, refused where none has."""
    ticket = ticket_of(stand[2], number)
    if ticket is None:
        raise NoTicket()
    return ticket


def moved(purses, giver, taker, amount):
    """The purses behind a payment."""
    told = list(purses)
    told[giver] = minus(told[giver], amount)
    told[taker] = plus(told[taker], amount)
    return tuple(told)


def with_ticket(stand, long, short, bet, price, stake):
    """The number of a new ticket, and the stand with it."""
    house, purses, tickets, lists, many = stand
    grown = few_enough(tickets + ((many, long, short, bet, price, stake),))
    return (many, sure((house, purses, grown, lists, many + 1)))


def dealt(stand, parts):
    """A new ticket of two holders."""
    long, short, bet, price, stake = parts
    if not are_two(len(stand[1]), long, short):
        raise NoHolder()
    if not lives(stand[0], bet):
        raise NoBet()
    if not is_fraction(price) or not is_above_zero(stake):
        raise NoStake()
    return with_ticket(stand, long, short, bet, price, stake)


def parted(stand, parts):
    """Some of a ticket's stake goes over to a new one."""
    number, stake = parts
    house, purses, tickets, lists, many = stand
    ticket = standing(stand, number)
    if not is_above_zero(stake) or not less(stake, ticket[5]):
        raise NoStake()
    rest = with_stake(ticket, minus(ticket[5], stake))
    new = (many,) + with_stake(ticket, stake)[1:]
    return (many, (house, purses, few_enough(exchanged(tickets, rest) + (new,)), lists, many + 1))


def passed_on(tickets, ticket, holder, to):
    """The tickets behind the handing on of a holder's side of one of them."""
    number, long, short, bet, price, stake = ticket
    sides = (to, short) if long == holder else (long, to)
    # Nobody bets with themselves: who gets the other side too is done with the ticket.
    if sides[0] == sides[1]:
        return without(tickets, [number])
    return exchanged(tickets, (number,) + sides + (bet, price, stake))


def handed(stand, parts):
    """A holder's side of a ticket goes to another one, with a fee."""
    number, holder, to, fee = parts
    house, purses, tickets, lists, many = stand
    ticket = standing(stand, number)
    if not is_number(holder) or holder not in ticket[1:3]:
        raise NoTicket()
    if not are_two(len(purses), holder, to):
        raise NoHolder()
    if not is_fraction(fee):
        raise NoStake()
    paid = moved(purses, holder, to, fee)
    return (None, sure((house, paid, passed_on(tickets, ticket, holder, to), lists, many)))


def netted(stand, parts):
    """Two tickets on one thing between the same two holders become one, or none."""
    one, other = parts
    house, purses, tickets, lists, many = stand
    ticket = standing(stand, one)
    further = standing(stand, other)
    if one == other:
        raise NoTicket()
    if ticket[3:5] != further[3:5] or sorted(ticket[1:3]) != sorted(further[1:3]):
        raise NotAlike()
    left = rest_of(ticket, further) if one < other else rest_of(further, ticket)
    if left is None:
        return (None, (house, purses, without(tickets, [one, other]), lists, many))
    rest = without(tickets, [max(one, other)])
    return (left[0], (house, purses, exchanged(rest, left), lists, many))


def cleared(stand, parts):
    """All tickets with one bet and price become as few as their holders' balances need."""
    house, purses, tickets, lists, many = stand
    bet, price = standing(stand, parts[0])[3:5]
    gone = [ticket for ticket in tickets if ticket[3:5] == (bet, price)]
    rows = matched(balances_of(len(purses), gone))
    new = [(many + at, long, short, bet, price, stake) for at, (long, short, stake) in enumerate(rows)]
    left = few_enough(without(tickets, [ticket[0] for ticket in gone]) + tuple(new))
    return (tuple([ticket[0] for ticket in new]), (house, purses, left, lists, many + len(new)))


def posted(stand, parts):
    """A holder's list is another one from then on."""
    holder, bids = parts
    house, purses, tickets, lists, many = stand
    if not is_place(len(purses), holder):
        raise NoHolder()
    if not is_list(house, bids):
        raise NoBet()
    fair_gains(house, bids)
    return (len(bids), (house, purses, tickets, lists[:holder] + (bids,) + lists[holder + 1:], many))


def sold(stand, parts):
    """A new ticket of a bid that a holder has posted."""
    seller, holder, place, stake = parts
    lists = stand[3]
    if not are_two(len(stand[1]), seller, holder):
        raise NoHolder()
    if not is_place(len(lists[holder]), place):
        raise NoBet()
    if not is_above_zero(stake):
        raise NoStake()
    bet, price = lists[holder][place]
    return with_ticket(stand, holder, seller, bet, price, stake)


def settled(house, purses, tickets):
    """The numbers of the tickets that bring the same at each world of the house, and the purses that they leave."""
    worlds = worlds_of(house)
    gone = []
    for ticket in tickets:
        gains = [brought(house[0], ticket, world) for world in worlds]
        if all([gain == gains[0] for gain in gains]):
            gone.append(ticket[0])
            purses = moved(purses, ticket[2], ticket[1], gains[0])
    return tuple(gone), purses


def heard(stand, parts):
    """News: the house is narrowed, lists are carried on, and tickets that are settled by it are paid."""
    saying = parts[0]
    house, purses, tickets, lists, many = stand
    if not is_saying(house[0], saying):
        raise NoSaying()
    # All lists are looked at ahead of the news: an unfair one is told before anything that the news bring.
    fair = [(bids, fair_gains(house, bids)) for bids in lists]
    behind = narrowed(house, saying)
    rows = tuple([carried_on(house, bids, gains, saying, behind) for bids, gains in fair])
    gone, left = settled(behind, purses, tickets)
    return (gone, (behind, left, without(tickets, gone), rows, many))


PARTS = {"deal": 5, "split": 2, "hand": 4, "net": 2, "clear": 1, "post": 2, "sell": 4, "hear": 1}
ACTIONS = {"deal": dealt, "split": parted, "hand": handed, "net": netted,
           "clear": cleared, "post": posted, "sell": sold, "hear": heard}


def is_deed(thing):
    """Whether anything is a row of one of the words and of as many parts, whatever these are."""
    if not isinstance(thing, tuple) or len(thing) == 0 or not isinstance(thing[0], str):
        return False
    return PARTS.get(thing[0]) == len(thing) - 1


def done(stand, deed):
    """What is told of a deed, and the stand behind it."""
    if not is_deed(deed):
        raise NoDeed()
    action = ACTIONS[deed[0]]
    return action(stand, deed[1:])
