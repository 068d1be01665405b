"""Sayings: rows of words over letters, read from the left with a heap."""

from betstall.errors import TooLong
from betstall.kinds import is_row

MOST_WORDS = 40
JOINING = ("and", "or", "same")


def wanted(letters, word):
    """How many things a word wants on the heap; None where it is no word."""
    if not isinstance(word, str):
        return None
    if word in JOINING:
        return 2
    if word == "not":
        return 1
    # A text of several letters may stand within the letters: it is no letter.
    if word in ("yes", "no") or (len(word) == 1 and word in letters):
        return 0
    return None


def is_saying(letters, thing):
    """Whether anything is a saying over the letters."""
    if not is_row(thing, 1, MOST_WORDS):
        return False
    high = 0
    for word in thing:
        many = wanted(letters, word)
        if many is None or high < many:
            return False
        high += 1 - many
    return high == 1


def laid(letters, word, world):
    """The truth that a letter, yes or no lays upon the heap at a world."""
    if word == "yes":
        return True
    if word == "no":
        return False
    return world[letters.index(word)] == "1"


def joint(word, one, other):
    """The truth that stands in the place of two."""
    if word == "and":
        return one and other
    if word == "or":
        return one or other
    return one == other


def holds(letters, saying, world):
    """Whether a saying holds at a world."""
    heap = []
    for word in saying:
        if word in JOINING:
            upper = heap.pop()
            heap[-1] = joint(word, heap[-1], upper)
        elif word == "not":
            heap[-1] = not heap[-1]
        else:
            heap.append(laid(letters, word, world))
    return heap[0]


def short_enough(words):
    """The words themselves, refused where they are too many for a saying."""
    if len(words) > MOST_WORDS:
        raise TooLong()
    return words


def both(one, other):
    """The saying that both sayings hold."""
    return short_enough(one + other + ("and",))


def either(one, other):
    """The saying that one of both sayings holds."""
    return short_enough(one + other + ("or",))


def not_so(one):
    """The saying that a saying doesn't hold."""
    return short_enough(one + ("not",))


def set_to(saying, letter, truth):
    """The saying with yes or no wherever the letter stands."""
    worth = "yes" if truth else "no"
    return tuple([worth if word == letter else word for word in saying])
