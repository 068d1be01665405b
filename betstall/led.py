"""Led things: the same with other names in the place of the letters."""

from betstall.houses import worlds_of


def led_letters(letters, names):
    """The names, sorted: the letters of what is led."""
    return "".join(sorted(names))


def led_saying(letters, saying, names):
    """The saying with names in the place of its letters."""
    named = dict(zip(letters, names))
    return tuple([named.get(word, word) for word in saying])


def led_bet(letters, bet, names):
    """The bet with names in the place of its letters."""
    terms, given = bet
    led_terms = tuple([(amount, led_saying(letters, saying, names)) for amount, saying in terms])
    return (led_terms, led_saying(letters, given, names))


def led_house(house, names):
    """The house with names in the place of its letters."""
    letters, rules = house
    return (led_letters(letters, names), tuple([led_saying(letters, rule, names) for rule in rules]))


def led_world(letters, world, names):
    """The world over the new letters in which each name is as its letter was."""
    signs = dict(zip(names, world))
    return "".join([signs[name] for name in led_letters(letters, names)])


def led_weighing(house, weighing, names):
    """The weighing of the led house in which each led world has what the world had."""
    # Other letters stand first in the led house: its worlds come in another order.
    shares = {led_world(house[0], world, names): share for world, share in zip(worlds_of(house), weighing)}
    return tuple([shares[world] for world in worlds_of(led_house(house, names))])
