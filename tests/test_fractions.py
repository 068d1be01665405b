"""Point 4: fractions."""

import random
import unittest
from fractions import Fraction

from betstall.fractions import is_fraction, less, lowest, plus, times, turned_about

from tests.helpers import GREAT, check_checker, pair_of, right_fraction, variants, worth


def great_ints(dice, figures):
    return dice.choice((-1, 1)) * dice.randint(10 ** (figures - 1), 10 ** figures - 1)


def some_fractions():
    dice = random.Random(4)
    told = [(0, 1), (1, 1), (-1, 1), (1, 2), (-1, 2), (2, 3), (-3, 2), (5, 6), (1, 6), (7, 12), (-5, 12), (9, 1)]
    for figures in (20, 300):
        for turn in range(3):
            told.append(pair_of(Fraction(great_ints(dice, figures), abs(great_ints(dice, figures)))))
    shared = abs(great_ints(dice, 150))
    told.append(pair_of(Fraction(shared, 10 ** 149 + 9)))
    told.append(pair_of(Fraction(-(10 ** 149 + 9), shared)))
    told.append(pair_of(Fraction(1, shared * 6)))
    told.append(pair_of(Fraction(5, shared * 4)))
    return told


class TestLowest(unittest.TestCase):

    def test_plain_ones(self):
        self.assertEqual(lowest(6, 4), (3, 2))
        self.assertEqual(lowest(6, -4), (-3, 2))
        self.assertEqual(lowest(-6, 4), (-3, 2))
        self.assertEqual(lowest(-6, -4), (3, 2))
        self.assertEqual(lowest(3, 1), (3, 1))
        self.assertEqual(lowest(8, 2), (4, 1))

    def test_zero_over_any(self):
        for bottom in (1, -1, 7, -7, 10 ** 299, -(10 ** 299)):
            self.assertEqual(lowest(0, bottom), (0, 1))

    def test_three_hundred_figures(self):
        dice = random.Random(1)
        for turn in range(40):
            top, bottom = great_ints(dice, 300), great_ints(dice, dice.choice((1, 150, 300)))
            self.assertEqual(lowest(top, bottom), pair_of(Fraction(top, bottom)))
        shared = abs(great_ints(dice, 150))
        self.assertEqual(lowest(shared * 6, -shared * 4), (-3, 2))
        self.assertEqual(lowest(10 ** 299, 10 ** 299), (1, 1))

    def test_every_small_pair(self):
        for top in range(-12, 13):
            for bottom in list(range(-12, 0)) + list(range(1, 13)):
                self.assertEqual(lowest(top, bottom), pair_of(Fraction(top, bottom)))


class TestSums(unittest.TestCase):

    def test_plus_times_less(self):
        for one in some_fractions():
            for other in some_fractions():
                self.assertEqual(plus(one, other), pair_of(worth(one) + worth(other)))
                self.assertEqual(times(one, other), pair_of(worth(one) * worth(other)))
                self.assertIs(less(one, other), worth(one) < worth(other))

    def test_turned_about(self):
        for one in some_fractions():
            self.assertEqual(turned_about(one), pair_of(-worth(one)))
            self.assertEqual(plus(one, turned_about(one)), (0, 1))
        self.assertEqual(turned_about((0, 1)), (0, 1))

    def test_near_and_equal_great_ones(self):
        one, other = (GREAT, GREAT + 1), (GREAT + 1, GREAT + 2)
        self.assertIs(less(one, other), True)
        self.assertIs(less(other, one), False)
        self.assertIs(less(one, one), False)
        self.assertIs(less(turned_about(other), turned_about(one)), True)

    def test_what_was_told_is_handed_on(self):
        total = (0, 1)
        for part in range(1, 200):
            total = plus(total, times((1, part), (1, part + 1)))
        self.assertEqual(total, (199, 200))
        power = (3, 2)
        for turn in range(10):
            power = times(power, power)
        self.assertEqual(power, (3 ** 1024, 2 ** 1024))


class TestIsFraction(unittest.TestCase):

    def test_right_ones(self):
        for one in some_fractions() + [(GREAT, GREAT + 1), (-GREAT, 1), (1, 10 ** 399), (3 ** 4000, 2 ** 4000)]:
            self.assertIs(is_fraction(one), True)

    def test_wrong_ones(self):
        wrong = [(2, 4), (0, 2), (1, 0), (0, 0), (1, -1), (-1, -2), (True, 1), (False, 1), (1, True), (True, True),
                 [1, 2], (1,), (1, 2, 3), (), (1, "2"), ("1", 2), (None, 1), (1, None), 1, "1", ((1, 1), 1),
                 (GREAT, GREAT), (2 * GREAT, 2), (1, -GREAT), (GREAT, 0)]
        for thing in wrong:
            self.assertIs(is_fraction(thing), False)

    def test_anything(self):
        others = variants((3, 4)) + variants((0, 1)) + variants((1, 1)) + variants((GREAT, 10 ** 399))
        check_checker(self, is_fraction, right_fraction, others)


if __name__ == "__main__":
    unittest.main()
