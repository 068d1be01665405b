"""The lines that a desk understands, read as rows: a word and its parts."""

from betstall.errors import NoText
from betstall.reader import bet_in, bid_in, parted_at, saying_in, words_in
from betstall.texts import is_decimal, read_fraction

MOST_FIGURES = 20
# What stands behind each word, in order; bets, bids and sayings are of several words, and come last.
KINDS = {
    "deal": ("number", "number", "fraction", "fraction", "bet"),
    "split": ("number", "fraction"),
    "sell": ("number", "number", "number", "fraction"),
    "hand": ("number", "number", "number", "fraction"),
    "net": ("number", "number"),
    "clear": ("number",),
    "post": ("number", "bids"),
    "hear": ("saying",),
    "back": (),
    "purse": ("number",),
    "worst": ("number",),
    "tickets": (),
    "show": ("number",),
    "list": ("number",),
    "worlds": (),
    "steps": (),
}


def number_in(text):
    """The number that a text is."""
    if not is_decimal(text, MOST_FIGURES):
        raise NoText()
    return int(text)


def bids_in(letters, words):
    """The bids that the words tell, each behind the word bid."""
    parts = parted_at(words, "bid")
    if parts[0] != []:
        raise NoText()
    return tuple([bid_in(letters, part) for part in parts[1:]])


def long_part(letters, kind, words):
    """The bet, the bids or the saying that the words tell."""
    if kind == "bet":
        return bet_in(letters, words)
    if kind == "bids":
        return bids_in(letters, words)
    return saying_in(letters, words)


def parts_in(letters, kinds, words):
    """What the words tell, a part for each of the kinds."""
    parts = []
    left = list(words)
    for kind in kinds:
        if kind == "number" or kind == "fraction":
            if len(left) == 0:
                raise NoText()
            word = left.pop(0)
            parts.append(number_in(word) if kind == "number" else read_fraction(word))
        else:
            parts.append(long_part(letters, kind, left))
            left = []
    if left:
        raise NoText()
    return tuple(parts)


def read_line(letters, thing):
    """The row, a word and its parts, that anything is the line of."""
    words = words_in(thing)
    kinds = KINDS.get(words[0])
    if kinds is None:
        raise NoText()
    return (words[0],) + parts_in(letters, kinds, words[1:])
