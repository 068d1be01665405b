"""Tickets struck out against one another, so that nobody has anything else by them at any world."""

from betstall.fractions import ZERO, less, minus, plus, turned_about
from betstall.tickets import with_stake


def rest_of(lesser, greater):
    """What is left of two tickets between the same two holders, by the lesser number; None where nothing is."""
    stake, other = lesser[5], greater[5]
    if lesser[1] == greater[1]:
        return with_stake(lesser, plus(stake, other))
    if stake == other:
        return None
    if less(other, stake):
        return with_stake(lesser, minus(stake, other))
    return lesser[:1] + with_stake(greater, minus(other, stake))[1:]


def balances_of(holders, tickets):
    """The stakes by which each of so many holders is long, less those by which it is short."""
    told = [ZERO] * holders
    for number, long, short, bet, price, stake in tickets:
        told[long] = plus(told[long], stake)
        told[short] = minus(told[short], stake)
    return told


def least_holder(balances, sign):
    """The least holder whose balance has the sign, 1 or -1; None where there is none."""
    for holder, balance in enumerate(balances):
        if balance[0] * sign > 0:
            return holder
    return None


def matched(balances):
    """Rows (long, short, stake) that bring about the balances, which come to 0 together."""
    left = list(balances)
    told = []
    long = least_holder(left, 1)
    while long is not None:
        short = least_holder(left, -1)
        owed = turned_about(left[short])
        stake = owed if less(owed, left[long]) else left[long]
        told.append((long, short, stake))
        left[long] = minus(left[long], stake)
        left[short] = plus(left[short], stake)
        long = least_holder(left, 1)
    return told
