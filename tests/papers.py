"""A second way to write and to read texts, and texts with something changed."""

import re
from fractions import Fraction

from tests.helpers import lives_somewhere, pair_of, right_bet, right_bids, right_house, right_letters, right_saying

FRACTION = re.compile(r"(0|-?[1-9][0-9]{0,299})(?:/([1-9][0-9]{0,299}))?")


def fraction_text(pair):
    return str(Fraction(pair[0], pair[1]))


def bet_text(bet):
    words = ["given", *bet[1]]
    for amount, saying in bet[0]:
        words += ["pays", fraction_text(amount), "if", *saying]
    return " ".join(words)


def bid_text(bid):
    return f"{bet_text(bid[0])} at {fraction_text(bid[1])}"


def stall_text(house, bids):
    told = f"letters {house[0]}\n"
    for rule in house[1]:
        told += "rule " + " ".join(rule) + "\n"
    for bid in bids:
        told += f"bid {bid_text(bid)}\n"
    return told


def second_fraction(text):
    """The fraction, or None."""
    if type(text) is not str or not FRACTION.fullmatch(text):
        return None
    told = pair_of(Fraction(text))
    return told if fraction_text(told) == text else None


def second_saying(letters, text):
    told = tuple(text.split(" ")) if type(text) is str else None
    return told if right_saying(letters, told) else None


def second_bet(letters, text):
    if type(text) is not str or not text.startswith("given "):
        return None
    first, *rest = text[6:].split(" pays ")
    terms = []
    for part in rest:
        amount, mark, saying = part.partition(" if ")
        terms.append((second_fraction(amount), second_saying(letters, saying)))
    told = (tuple(terms), second_saying(letters, first))
    return told if right_bet(letters, told) and bet_text(told) == text else None


def loose_bid(letters, text):
    """A bid whose bet may live nowhere, or None."""
    if type(text) is not str:
        return None
    bet, mark, price = text.rpartition(" at ")
    told = (second_bet(letters, bet), second_fraction(price))
    return None if None in told else told


def second_bid(house, text):
    told = loose_bid(house[0], text)
    return told if told and lives_somewhere(house, told[0]) else None


def second_stall(text):
    if type(text) is not str:
        return None
    lines = text.split("\n")
    if lines[-1] != "" or not lines[0].startswith("letters ") or not right_letters(lines[0][8:]):
        return None
    letters = lines[0][8:]
    rules = tuple(second_saying(letters, line[5:]) for line in lines if line.startswith("rule "))
    bids = tuple(loose_bid(letters, line[4:]) for line in lines if line.startswith("bid "))
    house = (letters, rules)
    if not right_house(house) or not right_bids(house, bids):
        return None
    return (house, bids) if stall_text(house, bids) == text else None


SIGNS = (" ", "\n", "0", "1", "/", "-", "+", "a", "A", "~", "  ", "\n\n", " yes", "given ")


def changed_text(dice, text):
    """A text with something in it changed, left out, put in or exchanged."""
    at = dice.randint(0, len(text))
    words = text.split(" ")
    place = dice.randint(0, len(words) - 1)
    other = dice.randint(0, len(words) - 1)
    swapped = list(words)
    swapped[place], swapped[other] = words[other], words[place]
    lines = text.split("\n")
    line = dice.randint(0, len(lines) - 1)
    return dice.choice((
        text[:at] + dice.choice(SIGNS) + text[at:], text[:at] + dice.choice(SIGNS) + text[at + 1:],
        text[:at] + text[at + 1:], text[:at] + text[at:at + 1] + text[at:], text[:at], text[at:], text.upper(),
        text[:at] + text[at:].upper(), text + " ", " " + text, text + "\n", "\n" + text, text.replace(" ", "  "),
        " ".join(words[:place] + words[place + 1:]), " ".join(words[:place] + [words[place]] + words[place:]),
        " ".join(swapped), text.replace("\n", ""), "\n".join(lines[:line] + lines[line + 1:]),
        "\n".join(lines[:line] + [lines[line]] + lines[line:]), "\n".join(lines[::-1]), text.replace(" ", "\n"),
        "\n".join(lines[1:-1] + lines[:1] + [""]), text.replace("\n", "\r\n"), text.title(), text * 2, text[::-1]))
