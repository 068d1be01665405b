"""Houses beside one another: of both at once, where they have no letter in common."""

from betstall.errors import NotAlike, TooMany
from betstall.fractions import times
from betstall.houses import MOST_LETTERS, MOST_RULES, worlds_of


def beside(one, other):
    """The house with the letters and the rules of both."""
    letters, rules = one
    other_letters, other_rules = other
    if any([letter in other_letters for letter in letters]):
        raise NotAlike()
    if len(letters + other_letters) > MOST_LETTERS or len(rules + other_rules) > MOST_RULES:
        raise TooMany()
    return ("".join(sorted(letters + other_letters)), rules + other_rules)


def part_of(letters, world, some):
    """The world over some of the letters."""
    return "".join([sign for letter, sign in zip(letters, world) if letter in some])


def shares_of(house, weighing):
    """What a weighing has for each world of its house, by the world."""
    return dict(zip(worlds_of(house), weighing))


def weighing_beside(one, weighing, other, other_weighing):
    """The weighing of the house beside in which each world has the product of what its parts have."""
    house = beside(one, other)
    letters = house[0]
    here = shares_of(one, weighing)
    there = shares_of(other, other_weighing)
    told = []
    for world in worlds_of(house):
        told.append(times(here[part_of(letters, world, one[0])], there[part_of(letters, world, other[0])]))
    return tuple(told)


def layers_beside(one, layers, other, other_layers):
    """Each layer of the first house with the first of the second, then its first with each further one of that."""
    told = [weighing_beside(one, weighing, other, other_layers[0]) for weighing in layers]
    for weighing in other_layers[1:]:
        told.append(weighing_beside(one, layers[0], other, weighing))
    return tuple(told)
