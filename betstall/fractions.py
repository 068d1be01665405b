"""Fractions: pairs (top, bottom) of ints in lowest terms, the bottom from 1 on."""

from betstall.kinds import is_number, is_row

ZERO = (0, 1)
ONE = (1, 1)


def common(one, other):
    """The greatest number that divides both; both are from 0 on, and not both 0."""
    while other > 0:
        one, other = other, one % other
    return one


def lowest(top, bottom):
    """The fraction of two ints, the second not 0."""
    shared = common(abs(top), abs(bottom))
    if bottom < 0:
        shared = -shared
    return (top // shared, bottom // shared)


def plus(one, other):
    """The sum of two fractions."""
    # Only the bottoms and what they share are brought down: that is quick
    # where one of two fractions has far more figures than the other.
    top, bottom = one
    other_top, other_bottom = other
    shared = common(bottom, other_bottom)
    rest = bottom // shared
    total = top * (other_bottom // shared) + other_top * rest
    left = common(abs(total), shared)
    return (total // left, rest * (other_bottom // left))


def times(one, other):
    """The product of two fractions."""
    # A top can share something with the bottom of the other fraction alone.
    top, bottom = one
    other_top, other_bottom = other
    falling = common(abs(top), other_bottom)
    rising = common(abs(other_top), bottom)
    return ((top // falling) * (other_top // rising), (bottom // rising) * (other_bottom // falling))


def turned_about(one):
    """The fraction with the other sign."""
    return (-one[0], one[1])


def minus(one, other):
    """What the first fraction is more than the second."""
    return plus(one, turned_about(other))


def divided(one, other):
    """The first fraction divided by the second, which is above 0."""
    return times(one, (other[1], other[0]))


def less(one, other):
    """Whether the first is less than the second."""
    return one[0] * other[1] < other[0] * one[1]


def is_fraction(thing):
    """Whether anything is a fraction, of whatever figures."""
    if not is_row(thing, 2, 2):
        return False
    top, bottom = thing
    if not is_number(top) or not is_number(bottom) or bottom < 1:
        return False
    return common(abs(top), bottom) == 1


def is_from_zero(thing):
    """Whether anything is a fraction from 0 on."""
    return is_fraction(thing) and thing[0] >= 0
