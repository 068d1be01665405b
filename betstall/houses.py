"""Houses: letters and rules over them, and the worlds at which all rules hold."""

from betstall.errors import NoWorld, TooMany
from betstall.kinds import is_row
from betstall.sayings import holds, is_saying

MOST_LETTERS = 6
MOST_RULES = 8


def are_letters(thing):
    """Whether anything is a text of some small letters, rising."""
    if not isinstance(thing, str) or not 1 <= len(thing) <= MOST_LETTERS:
        return False
    small = all(["a" <= letter <= "z" for letter in thing])
    return small and all([one < other for one, other in zip(thing, thing[1:])])


def worlds_over(letters):
    """All worlds over the letters, rising."""
    worlds = [""]
    for letter in letters:
        worlds = [world + sign for world in worlds for sign in "01"]
    return worlds


def keeps(letters, rules, world):
    """Whether all rules hold at a world."""
    return all([holds(letters, rule, world) for rule in rules])


def is_house(thing):
    """Whether anything is a house."""
    if not is_row(thing, 2, 2):
        return False
    letters, rules = thing
    if not are_letters(letters) or not is_row(rules, 0, MOST_RULES):
        return False
    if not all([is_saying(letters, rule) for rule in rules]):
        return False
    return any([keeps(letters, rules, world) for world in worlds_over(letters)])


def worlds_of(house):
    """The worlds of a house, rising."""
    letters, rules = house
    return tuple([world for world in worlds_over(letters) if keeps(letters, rules, world)])


def may_be(house, saying):
    """Whether a saying holds at some world of the house."""
    return any([holds(house[0], saying, world) for world in worlds_of(house)])


def is_sure(house, saying):
    """Whether a saying holds at all worlds of the house."""
    return all([holds(house[0], saying, world) for world in worlds_of(house)])


def narrowed(house, saying):
    """The house with one rule more."""
    letters, rules = house
    if not may_be(house, saying):
        raise NoWorld()
    if len(rules) >= MOST_RULES:
        raise TooMany()
    return (letters, rules + (saying,))
