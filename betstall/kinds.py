"""What any thing is, looked at without trusting it."""


def is_number(thing):
    """Whether it is an int; truths are ints to Python, but no numbers here."""
    return isinstance(thing, int) and not isinstance(thing, bool)


def is_row(thing, least, most):
    """Whether it is a tuple of at least and at most so many things."""
    return isinstance(thing, tuple) and least <= len(thing) <= most


def is_same(own, thing):
    """Whether anything is just what this package told (rows, numbers, texts and None), kinds too."""
    if isinstance(own, tuple):
        if not is_row(thing, len(own), len(own)):
            return False
        return all([is_same(part, other) for part, other in zip(own, thing)])
    # A truth is equal to a number, but is none; to a text and to None nothing of another kind is equal.
    if is_number(own) and not is_number(thing):
        return False
    return own == thing
