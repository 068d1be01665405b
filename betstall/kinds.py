"""What any thing is, looked at without trusting it."""


def is_number(thing):
    """Whether it is an int; truths are ints to Python, but no numbers here."""
    return isinstance(thing, int) and not isinstance(thing, bool)


def is_row(thing, least, most):
    """Whether it is a tuple of at least and at most so many things."""
    return isinstance(thing, tuple) and least <= len(thing) <= most
