"""Fractions, sayings, bets, bids and stalls, written as texts; and fractions read from texts."""

from betstall.errors import NoText
from betstall.fractions import is_fraction

MOST_FIGURES = 300
PIECE_FIGURES = 60
PIECE = 10 ** 60


def show_number(number):
    """A number from 0 on, decimal."""
    # Written piece by piece: Python itself writes no number of more than some thousand figures.
    pieces = []
    rest = number
    while rest >= PIECE:
        rest, piece = divmod(rest, PIECE)
        pieces.append(str(piece).zfill(PIECE_FIGURES))
    return str(rest) + "".join(reversed(pieces))


def show_fraction(one):
    """A fraction: its top, and its bottom unless that is 1."""
    top, bottom = one
    sign = "-" if top < 0 else ""
    behind = "" if bottom == 1 else "/" + show_number(bottom)
    return sign + show_number(abs(top)) + behind


def show_saying(saying):
    """A saying: its words."""
    return " ".join(saying)


def show_bet(bet):
    """A bet: its given, and for each term what it pays and if what."""
    terms, given = bet
    parts = ["given " + show_saying(given)]
    for amount, saying in terms:
        parts.append("pays " + show_fraction(amount) + " if " + show_saying(saying))
    return " ".join(parts)


def show_bid(bid):
    """A bid: its bet and its price."""
    bet, price = bid
    return show_bet(bet) + " at " + show_fraction(price)


def show_stall(house, bids):
    """A house and bids of it: a line for the letters, for each rule and for each bid."""
    letters, rules = house
    lines = ["letters " + letters]
    lines.extend(["rule " + show_saying(rule) for rule in rules])
    lines.extend(["bid " + show_bid(bid) for bid in bids])
    return "".join([line + "\n" for line in lines])


def is_decimal(text, most):
    """Whether a text is a number from 0 on, decimal, without noughts ahead, of at most so many figures."""
    if not 1 <= len(text) <= most or not all(["0" <= sign <= "9" for sign in text]):
        return False
    return text == "0" or text[0] != "0"


def read_fraction(thing):
    """The fraction that anything is the text of."""
    if not isinstance(thing, str):
        raise NoText()
    sign = -1 if thing.startswith("-") else 1
    top, stroke, bottom = (thing if sign == 1 else thing[1:]).partition("/")
    if not is_decimal(top, MOST_FIGURES) or (stroke != "" and not is_decimal(bottom, MOST_FIGURES)):
        raise NoText()
    told = (sign * int(top), 1 if stroke == "" else int(bottom))
    # What would be written otherwise (-0, 2/4, 3/1) isn't so written.
    if not is_fraction(told) or show_fraction(told) != thing:
        raise NoText()
    return told
