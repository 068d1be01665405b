"""What the tests share: things of all kinds, right things broken in one part,
makers of sayings, houses and bets, and second ways to answer the same questions."""

import copy
import random
from fractions import Fraction
from math import gcd

GREAT = 10 ** 399 + 7
WORDS = ("yes", "no", "not", "and", "or", "same")
ALL_LETTERS = "abcdefghijklmnopqrstuvwxyz"


def nested(made, many):
    thing = 1
    for turn in range(many):
        thing = made(thing)
    return thing


def things():
    """Some of anything, as point 2 tells it."""
    plain = [None, True, False, 0, 1, -1, 2, GREAT, -GREAT, 10 ** 400 - 1,
             "", "a", "b", "ab", "ba", "aa", "A", "1", "0", "01", "yes", "no", "not", "and", "or", "same",
             "\n", " ", "~", "x" * 20000, "abcdefg"]
    rows = [(), (1,), (1, 2), (2, 4), (1, 0), (0, 1), (0, 2), (1, -2), (True, 1), (1, True), (False, 1),
            (1, 2, 3), ("yes",), ("a",), ("ab",), ("",), (None,), ((),), ((), ()), ((), ("yes",)), ("a", ()),
            ("a", (("no",),)), ("a", (("yes",),)), (GREAT, 1), (1, GREAT), (GREAT, GREAT),
            ((0, 1),), ((1, 1),), ((1, 2), (1, 2)), ((1, 1), (0, 1)), (((1, 1),),), (((1, 1), (0, 1)),),
            ((((), ("yes",)), (0, 1)),), (((((1, 1), ("a",)),), ("yes",)), (1, 2))]
    kept = [[], [1, 2], [[], []], {}, {"a": 1}, {1: 2, True: 3, None: [], "yes": {}}, {0: (1, 2)}]
    deep = [nested(made, 10) for made in (lambda x: (x,), lambda x: [x], lambda x: {"a": x}, lambda x: (x, x))]
    wide = [(1,) * 4999, ("yes",) * 4999, [0] * 4999, ((1, 2),) * 1600, ("no", "not") * 20, ((),) * 12]
    mixed = [(thing, thing) for thing in kept] + [("a", thing) for thing in kept] + [(thing,) for thing in kept]
    return plain + rows + [list(row) for row in rows] + kept + deep + wide + mixed


SWAPS = (None, True, False, 0, 1, -1, 2, GREAT, -GREAT, "", "a", "z", "ab", "yes", "not", "and", "1",
         (), (0, 1), (1, 1), (1, 2), (2, 2), (-1, 1), (1, 0), ("yes",), ("no",), ((), ("yes",)), [], [1, 2], {}, {1: 1})


def part_variants(thing):
    if isinstance(thing, bool) or thing is None:
        return [1, 0, (), ""]
    if isinstance(thing, int):
        return [thing + 1, thing - 1, -thing, thing * 2, str(thing), (thing,), thing == 1, None]
    if isinstance(thing, str):
        return [thing + "a", thing[1:], thing[::-1], thing.upper(), (thing,), list(thing), None]
    if isinstance(thing, (list, dict)):
        return [tuple(thing), (), None]
    return variants(thing)


def variants(row):
    """A tuple with one part changed, left out or put in, at any depth."""
    told = [list(row), dict(enumerate(row)), row + row, row[::-1], (row,)]
    for at in range(len(row)):
        told.append(row[:at] + row[at + 1:])
        told.append(row[:at] + (row[at], row[at]) + row[at + 1:])
        for part in part_variants(row[at]):
            told.append(row[:at] + (part,) + row[at + 1:])
    for at in range(len(row) + 1):
        for part in SWAPS:
            told.append(row[:at] + (part,) + row[at:])
            if at < len(row):
                told.append(row[:at] + (part,) + row[at + 1:])
    return told


def changed(dice, row):
    """A tuple with one part changed, left out or put in, somewhere in it; quicker than one of all variants."""
    at = dice.randint(0, len(row))
    if at < len(row) and isinstance(row[at], tuple) and dice.random() < 0.8:
        return row[:at] + (changed(dice, row[at]),) + row[at + 1:]
    told = [row[:at] + (dice.choice(SWAPS),) + row[at:], row[:at] + (dice.choice(SWAPS),) + row[at + 1:],
            row[:at] + row[at + 1:], row[:at] + row[at:at + 1] + row[at:], list(row), row[::-1]]
    if at < len(row) and not isinstance(row[at], tuple):
        told += [row[:at] + (part,) + row[at + 1:] for part in part_variants(row[at])]
    return dice.choice(told)


def often_changed(dice, row, many):
    """A tuple with so many changes, one behind another."""
    for turn in range(many):
        row = changed(dice, row) if isinstance(row, tuple) else row
    return row


def check_checker(case, checker, right, others=()):
    """A checker tells just what a second way tells, of all things and of others, and changes none."""
    for thing in things() + list(others):
        ahead = copy.deepcopy(thing)
        told = checker(thing)
        case.assertIn(told, (True, False))
        case.assertIsInstance(told, bool)
        case.assertEqual(told, right(thing), repr(thing)[:300])
        case.assertEqual(checker(thing), told)
        case.assertEqual(repr(ahead), repr(thing))


def number(thing):
    return type(thing) is int


def right_fraction(thing):
    return (type(thing) is tuple and len(thing) == 2 and number(thing[0]) and number(thing[1])
            and thing[1] > 0 and gcd(thing[0], thing[1]) == 1)


def right_saying(letters, thing):
    """Read from the right: how many things are still owed to the words seen."""
    if type(thing) is not tuple or not 1 <= len(thing) <= 40:
        return False
    many = {"yes": 0, "no": 0, "not": 1, "and": 2, "or": 2, "same": 2}
    many.update({letter: 0 for letter in letters})
    owed = 1
    for word in reversed(thing):
        if type(word) is not str or word not in many or owed == 0:
            return False
        owed += many[word] - 1
    return owed == 0


def truth(letters, saying, world):
    """Whether a saying holds, by parting it into its last word and what that joins."""
    def read(at):
        word = saying[at]
        if word == "not":
            one, rest = read(at - 1)
            return not one, rest
        if word in ("and", "or", "same"):
            other, rest = read(at - 1)
            one, rest = read(rest)
            return {"and": one and other, "or": one or other, "same": one is other}[word], rest
        return {"yes": True, "no": False}.get(word, dict(zip(letters, world)).get(word) == "1"), at - 1
    return read(len(saying) - 1)[0]


def worlds(house):
    letters, rules = house
    texts = [format(number, "b").zfill(len(letters)) for number in range(2 ** len(letters))]
    return [world for world in texts if all(truth(letters, rule, world) for rule in rules)]


def right_letters(thing):
    return (type(thing) is str and 1 <= len(thing) <= 6 and set(thing) <= set(ALL_LETTERS)
            and "".join(sorted(set(thing))) == thing)


def right_house(thing):
    return (type(thing) is tuple and len(thing) == 2 and right_letters(thing[0])
            and type(thing[1]) is tuple and len(thing[1]) <= 8
            and all(right_saying(thing[0], rule) for rule in thing[1]) and worlds(thing) != [])


def right_bet(letters, thing):
    return (type(thing) is tuple and len(thing) == 2 and type(thing[0]) is tuple and len(thing[0]) <= 8
            and right_saying(letters, thing[1])
            and all(type(term) is tuple and len(term) == 2 and right_fraction(term[0])
                    and right_saying(letters, term[1]) for term in thing[0]))


def worth(pair):
    return Fraction(pair[0], pair[1])


def pair_of(one):
    return (one.numerator, one.denominator)


def paid(letters, bet, world):
    """What a bet pays, a Fraction, or None."""
    if not truth(letters, bet[1], world):
        return None
    return sum([worth(amount) for amount, saying in bet[0] if truth(letters, saying, world)], Fraction(0))


class Maker:
    """Makes sayings, houses, bets and the like, the same ones for the same seed."""

    def __init__(self, seed):
        self.dice = random.Random(seed)

    def fraction(self, most=9):
        return pair_of(Fraction(self.dice.randint(-most, most), self.dice.randint(1, most)))

    def from_zero(self, most=9):
        return pair_of(Fraction(self.dice.randint(0, most), self.dice.randint(1, most)))

    def saying(self, letters, most=9):
        if most < 3 or self.dice.random() < 0.2:
            return (self.dice.choice(tuple(letters) * 3 + ("yes", "no")),)
        if self.dice.random() < 0.2:
            return self.saying(letters, most - 1) + ("not",)
        half = self.dice.randint(1, most - 2)
        return (self.saying(letters, half) + self.saying(letters, most - 1 - half)
                + (self.dice.choice(("and", "or", "same")),))

    def letters(self, least=1, most=4):
        return "".join(sorted(self.dice.sample(ALL_LETTERS, self.dice.randint(least, most))))

    def house(self, least=1, most=4):
        while True:
            letters = self.letters(least, most)
            house = (letters, tuple(self.saying(letters) for turn in range(self.dice.randint(0, 2))))
            if worlds(house):
                return house

    def bet(self, letters, most=3):
        terms = tuple((self.fraction(), self.saying(letters)) for turn in range(self.dice.randint(0, most)))
        return (terms, self.saying(letters))

    def bid(self, house, most=3):
        while True:
            bet = self.bet(house[0], most)
            if lives_somewhere(house, bet):
                return (bet, self.fraction())

    def bids(self, house, many):
        return tuple(self.bid(house) for turn in range(many))

    def stakes(self, many):
        return tuple(self.from_zero(4) if self.dice.random() < 0.7 else (0, 1) for turn in range(many))

    def weighing(self, house, most=5):
        while True:
            parts = [max(0, self.dice.randint(-3, most)) for world in worlds(house)]
            if sum(parts):
                return tuple(pair_of(Fraction(part, sum(parts))) for part in parts)

    def layers(self, house, many):
        return tuple(self.weighing(house, self.dice.choice((1, 5))) for turn in range(many))

    def living_bet(self, house, most=3):
        return self.bid(house, most)[0]

    def borne(self, house, many, beneath=True):
        """Layers, and as many bids that they bear, at their means or some of them beneath."""
        layers = self.layers(house, self.dice.randint(1, 3)) + (even(house),)
        bids = []
        for turn in range(many):
            bet = self.living_bet(house)
            low = Fraction(self.dice.randint(0, 3), 7) if beneath and self.dice.random() < 0.4 else 0
            bids.append((bet, pair_of(mean_through(house, layers, bet) - low)))
        return layers, tuple(bids)


def always(many):
    """A saying of so many words that always holds."""
    return ("yes" if many % 2 else "no",) + ("not",) * (many - 1)


def lives_somewhere(house, bet):
    return any(truth(house[0], bet[1], world) for world in worlds(house))


def right_bids(house, thing):
    return (type(thing) is tuple and len(thing) <= 12
            and all(type(bid) is tuple and len(bid) == 2 and right_fraction(bid[1])
                    and right_bet(house[0], bid[0]) and lives_somewhere(house, bid[0]) for bid in thing))


def gained(house, bids, stakes):
    """What a book gains at each world, Fractions or None."""
    told = []
    for world in worlds(house):
        alive = [(worth(stake), paid(house[0], bet, world) - worth(price))
                 for (bet, price), stake in zip(bids, stakes) if truth(house[0], bet[1], world)]
        staked = any(stake > 0 for stake, gain in alive)
        told.append(sum([stake * gain for stake, gain in alive], Fraction(0)) if staked else None)
    return told


def stakes_right(bids, thing):
    return (type(thing) is tuple and len(thing) == len(bids)
            and all(right_fraction(stake) and stake[0] >= 0 for stake in thing))


def losing(house, bids, thing):
    if not stakes_right(bids, thing):
        return False
    gains = [gain for gain in gained(house, bids, thing) if gain is not None]
    return bool(gains) and max(gains) < 0


def weighing_right(house, thing):
    return (type(thing) is tuple and len(thing) == len(worlds(house))
            and all(right_fraction(share) and share[0] >= 0 for share in thing)
            and sum(worth(share) for share in thing) == 1)


def weight(house, weighing, saying):
    return sum([worth(share) for share, world in zip(weighing, worlds(house)) if truth(house[0], saying, world)],
               Fraction(0))


def mean(house, weighing, bet):
    heavy = weight(house, weighing, bet[1])
    if heavy == 0:
        return None
    alive = [(worth(share), paid(house[0], bet, world)) for share, world in zip(weighing, worlds(house))]
    return sum([share * due for share, due in alive if due is not None], Fraction(0)) / heavy


def even(house):
    """The weighing in which all worlds weigh the same."""
    many = len(worlds(house))
    return ((1, many),) * many


def mean_through(house, layers, bet):
    """The mean of a bet in layers, a Fraction, or None."""
    heavy = [layer for layer in layers if weight(house, layer, bet[1]) > 0]
    return mean(house, heavy[0], bet) if heavy else None


def layers_right(house, bids, thing):
    if not (type(thing) is tuple and len(thing) <= 40 and all(weighing_right(house, layer) for layer in thing)):
        return False
    for bet, price in bids:
        heavy = [layer for layer in thing if weight(house, layer, bet[1]) > 0]
        if not heavy or mean(house, heavy[0], bet) < worth(price):
            return False
    return True


def low_right(house, bids, bet, thing):
    """Whether a thing is a price paper, told world by world."""
    if not (type(thing) is tuple and len(thing) == 4 and right_fraction(thing[0])):
        return False
    price, layers, stakes, more = thing
    if not (layers_right(house, bids, layers) and stakes_right(bids, stakes) and stakes_right(bids, more)):
        return False
    if mean_through(house, layers, bet) != worth(price):
        return False
    for world, gain, further in zip(worlds(house), gained(house, bids, stakes), gained(house, bids, more)):
        due = paid(house[0], bet, world)
        reached = 0 if gain is None else gain
        if due is not None and reached > due - worth(price):
            return False
        asked = due is None and (gain is not None or further is not None)
        if asked and (reached > 0 or further is None or further >= 0):
            return False
    return True


def shifted(pair, amount):
    """A fraction with so much more."""
    return pair_of(worth(pair) + amount)


def check_refused(case, error, asked, *handed):
    """It is refused with just this class, twice."""
    for turn in range(2):
        with case.assertRaises(error) as caught:
            asked(*handed)
        case.assertIs(type(caught.exception), error)


def check_steady(case, asked, calls):
    """Asked again, also behind other questions, the answers are the same, and what was handed in is as it was."""
    ahead = copy.deepcopy(calls)
    told = [asked(*call) for call in calls]
    case.assertEqual([asked(*call) for call in reversed(calls)], told[::-1])
    case.assertEqual([repr(asked(*call)) for call in copy.deepcopy(calls)], [repr(one) for one in told])
    case.assertEqual(repr(calls), repr(ahead))


def cause_right(house, bids, thing):
    """Whether a thing is a cause of the bids, part by part."""
    if not (type(thing) is tuple and len(thing) == 3 and all(type(part) is tuple for part in thing)):
        return False
    numbers, stakes, others = thing
    if not (numbers and all(number(one) and 0 <= one < len(bids) for one in numbers)
            and sorted(set(numbers)) == list(numbers)):
        return False
    if len(others) != len(numbers) or not losing(house, tuple(bids[one] for one in numbers), stakes):
        return False
    return all(layers_right(house, tuple(bids[other] for other in numbers if other != one), layers)
               for one, layers in zip(numbers, others))


def days_gained(house, bids, cells, lists, stakes, later):
    """What two days' stakes gain at each world, Fractions or None."""
    told = []
    for place, world in enumerate(worlds(house)):
        at = [truth(house[0], cell, world) for cell in cells].index(True)
        both = (gained(house, bids, stakes)[place], gained(house, lists[at], later[at])[place])
        alive = [gain for gain in both if gain is not None]
        told.append(sum(alive, Fraction(0)) if alive else None)
    return told


def days_right(house, bids, cells, lists, thing):
    if not (type(thing) is tuple and len(thing) == 2 and stakes_right(bids, thing[0])
            and type(thing[1]) is tuple and len(thing[1]) == len(lists)
            and all(stakes_right(row, stakes) for row, stakes in zip(lists, thing[1]))):
        return False
    alive = [gain for gain in days_gained(house, bids, cells, lists, thing[0], thing[1]) if gain is not None]
    return bool(alive) and max(alive) < 0


def between_right(house, one, other, thing):
    """Whether a thing is stakes for two lists that lose surely by both, told world by world."""
    if not (type(thing) is tuple and len(thing) == 2 and stakes_right(one, thing[0]) and stakes_right(other, thing[1])):
        return False
    told = []
    for gains in zip(gained(house, one, thing[0]), gained(house, other, thing[1])):
        alive = [gain for gain in gains if gain is not None]
        told += [sum(alive, Fraction(0))] if alive else []
    return bool(told) and max(told) < 0
