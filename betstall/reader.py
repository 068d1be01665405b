"""Sayings, bets, bids and stalls, read from texts."""

from betstall.bets import is_bet
from betstall.bids import are_bids, is_bid
from betstall.errors import NoText
from betstall.houses import is_house
from betstall.sayings import is_saying
from betstall.texts import read_fraction


def words_in(thing):
    """The words of anything that is a text, with one blank between; two blanks have an empty word between them."""
    if not isinstance(thing, str):
        raise NoText()
    return thing.split(" ")


def parted_at(words, mark):
    """The words ahead of the first mark, and those behind each mark."""
    told = [[]]
    for word in words:
        if word == mark:
            told.append([])
        else:
            told[-1].append(word)
    return told


def saying_in(letters, words):
    """The saying over the letters that the words are."""
    saying = tuple(words)
    if not is_saying(letters, saying):
        raise NoText()
    return saying


def term_in(letters, words):
    """The term of a bet that the words behind "pays" tell."""
    if len(words) < 2 or words[1] != "if":
        raise NoText()
    return (read_fraction(words[0]), saying_in(letters, words[2:]))


def bet_in(letters, words):
    """The bet over the letters that the words tell."""
    if len(words) == 0 or words[0] != "given":
        raise NoText()
    parts = parted_at(words[1:], "pays")
    bet = (tuple([term_in(letters, part) for part in parts[1:]]), saying_in(letters, parts[0]))
    if not is_bet(letters, bet):
        raise NoText()
    return bet


def bid_in(letters, words):
    """The bid that the words tell, on a bet over the letters that may live nowhere."""
    if len(words) < 2 or words[-2] != "at":
        raise NoText()
    return (bet_in(letters, words[:-2]), read_fraction(words[-1]))


def read_saying(letters, thing):
    """The saying over the letters that anything is the text of."""
    return saying_in(letters, words_in(thing))


def read_bet(letters, thing):
    """The bet over the letters that anything is the text of."""
    return bet_in(letters, words_in(thing))


def read_bid(house, thing):
    """The bid of the house that anything is the text of."""
    bid = bid_in(house[0], words_in(thing))
    if not is_bid(house, bid):
        raise NoText()
    return bid


def rows_in(thing):
    """The words of each line of anything that is a text of lines, each with its end."""
    if not isinstance(thing, str) or not thing.endswith("\n"):
        raise NoText()
    return [line.split(" ") for line in thing[:-1].split("\n")]


def read_stall(thing):
    """The house and the bids that anything is the text of."""
    rows = rows_in(thing)
    first = rows[0]
    if len(first) != 2 or first[0] != "letters":
        raise NoText()
    heads = [row[0] for row in rows[1:]]
    rules = heads.count("rule")
    # All rules stand ahead of all bids.
    if heads != ["rule"] * rules + ["bid"] * (len(heads) - rules):
        raise NoText()
    letters = first[1]
    house = (letters, tuple([saying_in(letters, row[1:]) for row in rows[1:1 + rules]]))
    if not is_house(house):
        raise NoText()
    bids = tuple([bid_in(letters, row[1:]) for row in rows[1 + rules:]])
    if not are_bids(house, bids):
        raise NoText()
    return (house, bids)
