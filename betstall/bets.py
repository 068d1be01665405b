"""Bets: pairs (terms, given), called off where given doesn't hold."""

from betstall.errors import NotAlike, TooLong
from betstall.fractions import ONE, ZERO, is_fraction, plus, times, turned_about
from betstall.kinds import is_row
from betstall.sayings import both, holds, is_saying

MOST_TERMS = 8


def is_term(letters, thing):
    """Whether anything is a pair of an amount and a saying."""
    return is_row(thing, 2, 2) and is_fraction(thing[0]) and is_saying(letters, thing[1])


def is_bet(letters, thing):
    """Whether anything is a bet over the letters."""
    if not is_row(thing, 2, 2):
        return False
    terms, given = thing
    if not is_row(terms, 0, MOST_TERMS) or not is_saying(letters, given):
        return False
    return all([is_term(letters, term) for term in terms])


def pays(letters, bet, world):
    """What a bet pays at a world; None where it is called off."""
    terms, given = bet
    if not holds(letters, given, world):
        return None
    paid = ZERO
    for amount, saying in terms:
        if holds(letters, saying, world):
            paid = plus(paid, amount)
    return paid


def turned(bet):
    """The bet with all amounts turned about."""
    terms, given = bet
    return (tuple([(turned_about(amount), saying) for amount, saying in terms]), given)


def so_often(bet, share):
    """The bet with all amounts times a fraction."""
    terms, given = bet
    return (tuple([(times(amount, share), saying) for amount, saying in terms]), given)


def few_enough(terms):
    """The terms themselves, refused where they are too many for a bet."""
    if len(terms) > MOST_TERMS:
        raise TooLong()
    return terms


def with_more(bet, amount=None):
    """The bet that pays so much more wherever it lives."""
    terms, given = bet
    more = ONE if amount is None else amount
    return (few_enough(terms + ((more, ("yes",)),)), given)


def together(one, other):
    """The bet that pays what two bets with the same given pay."""
    if one[1] != other[1]:
        raise NotAlike()
    return (few_enough(one[0] + other[0]), one[1])


def called_off(bet, saying):
    """The bet called off besides where the saying doesn't hold."""
    terms, given = bet
    return (terms, both(given, saying))
