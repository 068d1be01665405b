"""Causes: bids that are unfair together and fair without any one of them, looked over without seeking anything."""

from betstall.books import right_loss
from betstall.kinds import is_number, is_row
from betstall.layers import right_layers


def are_numbers(bids, thing):
    """Whether anything is a rising row of places of bids, one at least."""
    if not is_row(thing, 1, len(bids)):
        return False
    if not all([is_number(number) and 0 <= number < len(bids) for number in thing]):
        return False
    return all([one < other for one, other in zip(thing, thing[1:])])


def right_cause(house, bids, thing):
    """Whether anything is a cause of the bids."""
    if not is_row(thing, 3, 3):
        return False
    numbers, stakes, others = thing
    if not are_numbers(bids, numbers) or not is_row(others, len(numbers), len(numbers)):
        return False
    blamed = tuple([bids[number] for number in numbers])
    if not right_loss(house, blamed, stakes):
        return False
    return all([right_layers(house, blamed[:at] + blamed[at + 1:], layers) for at, layers in enumerate(others)])
