"""Point 14: weighings."""

import unittest
from fractions import Fraction

from betstall.weighings import is_weighing, mean_of, mixture, weight_of

from tests.helpers import (GREAT, Maker, check_checker, mean, pair_of, variants, weighing_right, weight, worlds,
                           worth)

HOUSE = ("ab", ())
EVEN = ((1, 4),) * 4
TILTED = ((0, 1), (1, 2), (1, 3), (1, 6))


class TestIsWeighing(unittest.TestCase):

    def test_right_ones(self):
        for thing in (EVEN, TILTED, ((0, 1), (0, 1), (1, 1), (0, 1))):
            self.assertIs(is_weighing(HOUSE, thing), True)
        self.assertIs(is_weighing(("a", (("a",),)), ((1, 1),)), True)
        self.assertIs(is_weighing(("abcdef", ()), ((1, 64),) * 64), True)
        self.assertIs(is_weighing(("a", ()), (pair_of(Fraction(GREAT, 10 ** 400)),
                                              pair_of(1 - Fraction(GREAT, 10 ** 400)))), True)

    def test_a_bit_more_or_less_than_one(self):
        for near in (Fraction(1, 4) + Fraction(1, GREAT), Fraction(1, 4) - Fraction(1, GREAT), Fraction(0), Fraction(5)):
            self.assertIs(is_weighing(HOUSE, EVEN[:3] + (pair_of(near),)), False)
        self.assertIs(is_weighing(HOUSE, ((0, 1),) * 4), False)

    def test_below_zero(self):
        self.assertIs(is_weighing(HOUSE, ((-1, 2), (1, 2), (1, 2), (1, 2))), False)
        self.assertIs(is_weighing(("a", ()), ((-1, 1), (2, 1))), False)

    def test_one_more_one_fewer(self):
        self.assertIs(is_weighing(HOUSE, EVEN + ((0, 1),)), False)
        self.assertIs(is_weighing(HOUSE, ((0, 1),) + TILTED), False)
        self.assertIs(is_weighing(HOUSE, TILTED[1:]), False)
        self.assertIs(is_weighing(("ab", (("a", "b", "or"),)), TILTED[1:]), True)
        self.assertIs(is_weighing(("ab", (("a", "b", "or"),)), TILTED), False)
        self.assertIs(is_weighing(HOUSE, ()), False)

    def test_other_kinds(self):
        for thing in (list(EVEN), ((2, 8),) * 4, ([1, 4],) * 4, ((1, 4), (1, 4), (1, 4), None), None, "", True,
                      ((0, 1), (0, 1), (0, 1), (True, 1)), ((0, 2), (0, 1), (0, 1), (1, 1)), (0, 0, 0, 1)):
            self.assertIs(is_weighing(HOUSE, thing), False)

    def test_anything(self):
        maker = Maker(26)
        for house in (HOUSE, ("a", ()), ("a", (("a",),)), ("ab", (("b",),)), HOUSE):
            others = variants(maker.weighing(house)) + variants(TILTED) + variants(((1, 2), (1, 2)))
            check_checker(self, lambda thing: is_weighing(house, thing),
                          lambda thing: weighing_right(house, thing), others)


class TestWeightOf(unittest.TestCase):

    def test_yes_and_no(self):
        for weighing in (EVEN, TILTED):
            self.assertEqual(weight_of(HOUSE, weighing, ("yes",)), (1, 1))
            self.assertEqual(weight_of(HOUSE, weighing, ("no",)), (0, 1))

    def test_sayings(self):
        self.assertEqual(weight_of(HOUSE, TILTED, ("a",)), (1, 2))
        self.assertEqual(weight_of(HOUSE, TILTED, ("b",)), (2, 3))
        self.assertEqual(weight_of(HOUSE, TILTED, ("a", "b", "or", "not")), (0, 1))
        self.assertEqual(weight_of(("ab", (("b",),)), ((1, 3), (2, 3)), ("a",)), (2, 3))

    def test_a_second_way(self):
        maker = Maker(27)
        for turn in range(60):
            house = maker.house()
            weighing, saying = maker.weighing(house), maker.saying(house[0])
            self.assertEqual(weight_of(house, weighing, saying), pair_of(weight(house, weighing, saying)))


class TestMeanOf(unittest.TestCase):

    def test_a_given_that_weighs(self):
        bet = ((((1, 1), ("a",)),), ("b",))
        self.assertEqual(mean_of(HOUSE, EVEN, bet), (1, 2))
        self.assertEqual(mean_of(HOUSE, TILTED, bet), (1, 4))
        self.assertEqual(mean_of(HOUSE, TILTED, ((((-3, 1), ("yes",)),), ("b",))), (-3, 1))
        self.assertEqual(mean_of(HOUSE, EVEN, ((), ("a",))), (0, 1))
        self.assertEqual(mean_of(("ab", (("b",),)), ((1, 3), (2, 3)), bet), (2, 3))

    def test_a_given_that_weighs_nothing(self):
        bet = ((((1, 1), ("yes",)),), ("a", "b", "or", "not"))
        self.assertIsNone(mean_of(HOUSE, TILTED, bet))
        self.assertEqual(mean_of(HOUSE, EVEN, bet), (1, 1))
        self.assertIsNone(mean_of(HOUSE, EVEN, ((), ("no",))))

    def test_a_second_way(self):
        maker = Maker(28)
        for turn in range(80):
            house = maker.house()
            weighing, bet = maker.weighing(house, 1), maker.bet(house[0])
            due = mean(house, weighing, bet)
            self.assertEqual(mean_of(house, weighing, bet), None if due is None else pair_of(due))


class TestMixture(unittest.TestCase):

    def test_shares(self):
        self.assertEqual(mixture(EVEN, TILTED, (0, 1)), TILTED)
        self.assertEqual(mixture(EVEN, TILTED, (1, 1)), EVEN)
        self.assertEqual(mixture(EVEN, TILTED, (1, 3)), ((1, 12), (5, 12), (11, 36), (7, 36)))
        self.assertEqual(mixture(EVEN, TILTED, share=(1, 3)), mixture(EVEN, TILTED, (1, 3)))
        self.assertEqual(mixture(EVEN, TILTED, share=(0, 1)), TILTED)

    def test_a_half(self):
        half = ((1, 8), (3, 8), (7, 24), (5, 24))
        self.assertEqual(mixture(EVEN, TILTED), half)
        self.assertEqual(mixture(EVEN, TILTED, None), half)
        self.assertEqual(mixture(EVEN, TILTED, share=None), half)
        self.assertEqual(mixture(EVEN, TILTED, (1, 2)), half)

    def test_it_is_a_weighing(self):
        maker = Maker(29)
        for turn in range(40):
            house = maker.house()
            one, other = maker.weighing(house), maker.weighing(house)
            share = pair_of(Fraction(maker.dice.randint(0, 7), 7))
            told = mixture(one, other, share)
            self.assertIs(is_weighing(house, told), True)
            due = [worth(share) * worth(x) + (1 - worth(share)) * worth(y) for x, y in zip(one, other)]
            self.assertEqual(told, tuple(pair_of(part) for part in due))
            self.assertEqual(len(told), len(worlds(house)))


if __name__ == "__main__":
    unittest.main()
