"""Point 27, and 3 (h): houses beside one another."""

import unittest

from betstall.beside import beside, layers_beside, part_of, weighing_beside
from betstall.errors import NotAlike, TooMany
from betstall.fractions import plus
from betstall.houses import is_house, worlds_of
from betstall.judging import judged
from betstall.layers import mean_in, right_layers
from betstall.prices import high_of, low_of
from betstall.weighings import is_weighing, mean_of

from tests.helpers import (ALL_LETTERS, Maker, check_refused, check_steady, layers_right, mean, pair_of, truth,
                           weighing_right, worlds, worth)

YES = ("yes",)
AC = ("ac", (("a", "c", "or"),))
B = ("b", ())


def parted(maker, most=6):
    """Two houses that have no letter in common."""
    while True:
        letters = maker.dice.sample(ALL_LETTERS, maker.dice.randint(2, most))
        at = maker.dice.randint(1, len(letters) - 1)
        texts = ["".join(sorted(letters[:at])), "".join(sorted(letters[at:]))]
        rows = [tuple(maker.saying(text) for turn in range(maker.dice.randint(0, 2))) for text in texts]
        houses = list(zip(texts, rows))
        if all(worlds(house) for house in houses):
            return houses


def sure_bet(maker, house):
    """A bet that is never called off in the house."""
    return (maker.bet(house[0])[0], YES)


class TestBeside(unittest.TestCase):

    def test_letters_among_one_another(self):
        self.assertEqual(beside(AC, B), ("abc", AC[1]))
        self.assertEqual(beside(B, AC), ("abc", AC[1]))
        self.assertEqual(beside(("df", (("d",), ("f",))), ("ae", (("e", "not"),))),
                         ("adef", (("d",), ("f",), ("e", "not"))))
        self.assertEqual(beside(("z", ()), ("a", ())), ("az", ()))

    def test_rules_of_the_first_then_of_the_second(self):
        one = ("a", (("a",), YES))
        other = ("b", (("b", "not"), ("b", "not", "b", "or", "b", "not", "and")))
        self.assertEqual(beside(one, other), ("ab", one[1] + other[1]))
        self.assertEqual(beside(other, one), ("ab", other[1] + one[1]))

    def test_a_letter_in_common(self):
        for one, other in (("a", "a"), ("ab", "bc"), ("abc", "c"), ("c", "abc"), ("bz", "az"), ("abcdef", "f")):
            check_refused(self, NotAlike, beside, (one, ()), (other, ()))

    def test_six_and_seven_letters(self):
        for many in range(1, 6):
            self.assertEqual(beside(("abcdef"[:many], ()), ("abcdef"[many:], ())), ("abcdef", ()))
        for many in range(1, 7):
            check_refused(self, TooMany, beside, ("abcdefg"[:many], ()), ("abcdefg"[many:], ()))
        check_refused(self, TooMany, beside, ("abcdef", ()), ("uvwxyz", ()))

    def test_eight_and_nine_rules(self):
        for many in range(9):
            told = beside(("a", (YES,) * many), ("b", (YES,) * (8 - many)))
            self.assertEqual(told, ("ab", (YES,) * 8))
            self.assertIs(is_house(told), True)
        for many in range(1, 9):
            check_refused(self, TooMany, beside, ("a", (YES,) * many), ("b", (YES,) * (9 - many)))

    def test_not_alike_comes_first(self):
        check_refused(self, NotAlike, beside, ("abcdef", ()), ("az", ()))
        check_refused(self, NotAlike, beside, ("abcd", ()), ("defg", ()))
        check_refused(self, NotAlike, beside, ("a", (YES,) * 5), ("a", (YES,) * 4))
        check_refused(self, NotAlike, beside, ("abcdef", (YES,) * 5), ("abcdef", (YES,) * 5))

    def test_its_worlds_are_those_of_both(self):
        maker = Maker(130)
        for turn in range(60):
            one, other = parted(maker)
            house = beside(one, other)
            self.assertIs(is_house(house), True)
            pairs = [(part_of(house[0], world, one[0]), part_of(house[0], world, other[0]))
                     for world in worlds_of(house)]
            self.assertEqual(sorted(pairs), sorted((here, there) for here in worlds(one) for there in worlds(other)))

    def test_asked_again(self):
        maker = Maker(131)
        check_steady(self, beside, [tuple(parted(maker)) for turn in range(10)])


class TestPartOf(unittest.TestCase):

    def test_parts(self):
        self.assertEqual(part_of("abc", "011", "ac"), "01")
        self.assertEqual(part_of("abc", "011", "b"), "1")
        self.assertEqual(part_of("abc", "011", "abc"), "011")
        self.assertEqual(part_of("abcdef", "100110", "aef"), "110")
        self.assertEqual(part_of("abcdef", "100110", "bcd"), "001")
        self.assertEqual(part_of("x", "0", "x"), "0")

    def test_each_letter_is_as_it_was(self):
        maker = Maker(132)
        for turn in range(60):
            letters = maker.letters(1, 6)
            some = "".join(sorted(maker.dice.sample(letters, maker.dice.randint(1, len(letters)))))
            for world in worlds((letters, ())):
                told = part_of(letters, world, some)
                self.assertEqual(dict(zip(some, told)), {name: dict(zip(letters, world))[name] for name in some})
                self.assertEqual(len(told), len(some))
                saying = maker.saying(some)
                self.assertEqual(truth(some, saying, told), truth(letters, saying, world))

    def test_asked_again(self):
        check_steady(self, part_of, [("abc", "011", "ac"), ("abc", "011", "abc"), ("abc", "100", "b")])


class TestWeighingBeside(unittest.TestCase):

    def test_products(self):
        weighing = ((1, 2), (1, 3), (1, 6))
        # AC has the worlds 01, 10, 11; b stands between a and c.
        self.assertEqual(weighing_beside(AC, weighing, B, ((1, 4), (3, 4))),
                         ((1, 8), (3, 8), (1, 12), (1, 24), (1, 4), (1, 8)))
        self.assertEqual(weighing_beside(B, ((1, 4), (3, 4)), AC, weighing),
                         ((1, 8), (3, 8), (1, 12), (1, 24), (1, 4), (1, 8)))
        self.assertEqual(weighing_beside(("a", ()), ((0, 1), (1, 1)), ("b", ()), ((1, 1), (0, 1))),
                         ((0, 1), (0, 1), (1, 1), (0, 1)))

    def test_whatever_weighings(self):
        maker = Maker(133)
        for turn in range(60):
            one, other = parted(maker)
            weighing, further = maker.weighing(one), maker.weighing(other)
            house = beside(one, other)
            told = weighing_beside(one, weighing, other, further)
            self.assertIs(is_weighing(house, told), True)
            self.assertTrue(weighing_right(house, told))
            here, there = dict(zip(worlds(one), weighing)), dict(zip(worlds(other), further))
            for world, share in zip(worlds(house), told):
                signs = dict(zip(house[0], world))
                parts = ["".join(signs[letter] for letter in text) for text in (one[0], other[0])]
                self.assertEqual(share, pair_of(worth(here[parts[0]]) * worth(there[parts[1]])))

    def test_means_are_what_they_were(self):
        maker = Maker(134)
        for turn in range(40):
            one, other = parted(maker)
            weighing, further = maker.weighing(one), maker.weighing(other)
            house = beside(one, other)
            told = weighing_beside(one, weighing, other, further)
            for part, shares in ((one, weighing), (other, further)):
                bet = maker.bet(part[0])
                self.assertEqual(mean_of(house, told, bet), mean_of(part, shares, bet))
                self.assertEqual(mean(house, told, bet), mean(part, shares, bet))

    def test_asked_again(self):
        maker = Maker(135)
        calls = []
        for turn in range(6):
            one, other = parted(maker)
            calls.append((one, maker.weighing(one), other, maker.weighing(other)))
        check_steady(self, weighing_beside, calls)


class TestLayersBeside(unittest.TestCase):

    def test_their_order(self):
        one, other = ("a", ()), ("b", ())
        layers = (((1, 1), (0, 1)), ((0, 1), (1, 1)), ((1, 2), (1, 2)))
        further = (((1, 3), (2, 3)), ((1, 4), (3, 4)), ((0, 1), (1, 1)))
        self.assertEqual(layers_beside(one, layers, other, further),
                         tuple(weighing_beside(one, here, other, there) for here, there in
                               ((layers[0], further[0]), (layers[1], further[0]), (layers[2], further[0]),
                                (layers[0], further[1]), (layers[0], further[2]))))
        self.assertEqual(layers_beside(one, layers[:1], other, further[:1]),
                         (weighing_beside(one, layers[0], other, further[0]),))

    def test_one_and_twenty_of_each(self):
        maker = Maker(136)
        one, other = AC, B
        for many, others in ((1, 1), (1, 20), (20, 1), (20, 20), (3, 2)):
            layers, further = maker.layers(one, many), maker.layers(other, others)
            told = layers_beside(one, layers, other, further)
            pairs = [(layer, further[0]) for layer in layers] + [(layers[0], layer) for layer in further[1:]]
            self.assertEqual(len(told), many + others - 1)
            self.assertEqual(told, tuple(weighing_beside(one, here, other, there) for here, there in pairs))
            self.assertIs(right_layers(beside(one, other), (), told), True)

    def test_they_bear_what_the_one_or_the_other_bear(self):
        maker = Maker(137)
        for turn in range(40):
            one, other = parted(maker, 5)
            layers, bids = maker.borne(one, 3)
            further, others = maker.borne(other, 3)
            house = beside(one, other)
            told = layers_beside(one, layers, other, further)
            self.assertIs(right_layers(house, bids + others, told), True)
            self.assertTrue(layers_right(house, bids + others, told))
            for part, ahead in ((one, layers), (other, further)):
                bet = maker.bet(part[0])
                self.assertEqual(mean_in(house, told, bet), mean_in(part, ahead, bet))

    def test_asked_again(self):
        maker = Maker(138)
        calls = []
        for turn in range(5):
            one, other = parted(maker, 4)
            calls.append((one, maker.layers(one, 2), other, maker.layers(other, 3)))
        check_steady(self, layers_beside, calls)


class TestListsBeside(unittest.TestCase):

    def test_fair_together_just_where_each_is(self):
        maker = Maker(139)
        seen = []
        for turn in range(60):
            one, other = parted(maker, 5)
            rows = [maker.borne(house, 2)[1] if maker.dice.random() < 0.6 else maker.bids(house, 3)
                    for house in (one, other)]
            kinds = [judged(house, row)[0] for house, row in zip((one, other), rows)]
            house = beside(one, other)
            told = judged(house, rows[0] + rows[1])[0]
            self.assertEqual(told == "fair", kinds == ["fair", "fair"])
            seen.append(told)
        self.assertGreater(seen.count("fair"), 10)
        self.assertGreater(seen.count("loss"), 10)

    def test_lowest_prices_add_up(self):
        maker = Maker(140)
        for turn in range(30):
            one, other = parted(maker, 5)
            bids, others = maker.borne(one, 2)[1], maker.borne(other, 2)[1]
            house = beside(one, other)
            here, there = sure_bet(maker, one), sure_bet(maker, other)
            both = (here[0] + there[0], YES)
            for asked in (low_of, high_of):
                alone = (asked(one, bids, here)[0], asked(other, others, there)[0])
                self.assertEqual(asked(house, bids + others, here)[0], alone[0])
                self.assertEqual(asked(house, bids + others, there)[0], alone[1])
                self.assertEqual(asked(house, bids + others, both)[0], plus(alone[0], alone[1]))


if __name__ == "__main__":
    unittest.main()
