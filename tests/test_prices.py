"""Points 18 and 19: the lowest and the highest price, and what a list takes."""

import unittest
from fractions import Fraction

from betstall.bets import so_often, together, turned, with_more
from betstall.bids import both_ways
from betstall.errors import NoBet, Unfair
from betstall.fractions import turned_about
from betstall.judging import judged
from betstall.lowpaper import right_low
from betstall.prices import high_of, low_of, takes
from betstall.layers import layer_of, mean_in, right_layers

from tests.helpers import (GREAT, Maker, check_refused, check_steady, low_right, mean_through, paid, pair_of, shifted,
                           worlds, worth)

HOUSE = ("ab", ())
SIX = ("abcdef", ())
BIT = Fraction(1, GREAT)
A_BY_B = ((((1, 1), ("a",)),), ("b",))
NEVER = ((((1, 1), ("a",)),), ("b", "b", "not", "and"))


def on(saying, given=("yes",)):
    return ((((1, 1), saying),), given)


UNFAIR = ((on(("a",)), (2, 3)), (on(("a", "not")), (1, 2)))


def low(house, bids, bet):
    return worth(low_of(house, bids, bet)[0])


def high(house, bids, bet):
    return worth(high_of(house, bids, bet)[0])


def payments(house, bet):
    return [due for due in [paid(house[0], bet, world) for world in worlds(house)] if due is not None]


class TestPapers(unittest.TestCase):

    def check(self, house, bids, bet):
        """The lowest and the highest price, with their papers looked over."""
        lowest = low_of(house, bids, bet)
        self.assertIs(right_low(house, bids, bet, lowest), True)
        self.assertTrue(low_right(house, bids, bet, lowest))
        highest = high_of(house, bids, bet)
        self.assertEqual((type(highest), len(highest)), (tuple, 4))
        paper = (turned_about(highest[0]),) + highest[1:]
        self.assertIs(right_low(house, bids, turned(bet), paper), True)
        self.assertTrue(low_right(house, bids, turned(bet), paper))
        self.assertEqual(turned_about(low_of(house, bids, turned(bet))[0]), highest[0])
        self.assertEqual(mean_through(house, highest[1], bet), worth(highest[0]))
        self.assertLessEqual(worth(lowest[0]), worth(highest[0]))
        return lowest[0], highest[0]

    def test_no_bids(self):
        maker = Maker(60)
        for turn in range(40):
            house = maker.house(1, 5)
            bet = maker.living_bet(house)
            due = payments(house, bet)
            self.assertEqual(self.check(house, (), bet), (pair_of(min(due)), pair_of(max(due))))

    def test_told_ones(self):
        # 1/4 for a and b, and b for 1/2 at most: a is worth a half, called off but for b.
        bids = ((on(("a", "b", "and")), (1, 4)), (turned(on(("b",))), (-1, 2)))
        self.assertEqual(self.check(HOUSE, bids, A_BY_B), ((1, 2), (1, 1)))
        self.assertEqual(self.check(HOUSE, bids, on(("b",))), ((1, 4), (1, 2)))
        both = both_ways(A_BY_B, (2, 3)) + both_ways(on(("b",)), (1, 5))
        self.assertEqual(self.check(HOUSE, both, on(("a", "b", "and"))), ((2, 15), (2, 15)))
        self.assertEqual(self.check(HOUSE, both, on(("a",))), ((2, 15), (14, 15)))
        self.assertEqual(self.check(HOUSE, both, on(("b",), ("a",))), ((1, 7), (1, 1)))

    def test_called_off_but_for_what_weighs_nothing(self):
        sure = ((on(("b", "not")), (1, 1)),)
        self.assertEqual(self.check(HOUSE, sure, A_BY_B), ((0, 1), (1, 1)))
        bids = sure + both_ways(A_BY_B, (2, 7))
        self.assertEqual(self.check(HOUSE, bids, A_BY_B), ((2, 7), (2, 7)))
        self.assertEqual(self.check(HOUSE, bids, on(("b",), ("a", "b", "or"))), ((0, 1), (1, 1)))
        self.assertEqual(self.check(HOUSE, bids, on(("a", "b", "and"), ("a", "b", "or"))), ((0, 1), (2, 7)))
        self.assertEqual(self.check(HOUSE, bids, on(("b",))), ((0, 1), (0, 1)))

    def test_the_first_layers_free_the_bet(self):
        bids = ((on(("b", "not")), (1, 1)), (on(("a",)), (1, 2)))
        for bet in (A_BY_B, turned(A_BY_B)):
            layers = low_of(HOUSE, bids, bet)[1]
            self.assertGreater(layer_of(HOUSE, layers, ("b",)), 0)
            self.assertEqual(layer_of(HOUSE, layers, ("yes",)), 0)
        # With a price for b above 0 nothing frees it.
        self.assertEqual(layer_of(HOUSE, low_of(HOUSE, ((on(("b",)), (1, 9)),), A_BY_B)[1], ("b",)), 0)

    def test_deep_conditions(self):
        letters = "abcdef"
        bids = ()
        given = ("yes",)
        for letter in letters[:5]:
            bids += ((on((letter, "not"), given), (1, 1)),)
            given = (letter,) if given == ("yes",) else given + (letter, "and")
        bet = on(("f",), given)
        self.assertEqual(self.check(SIX, bids, bet), ((0, 1), (1, 1)))
        bids += ((bet, (3, 7)), (turned(bet), (-4, 7)))
        self.assertEqual(self.check(SIX, bids, bet), ((3, 7), (4, 7)))
        self.assertEqual(layer_of(SIX, low_of(SIX, bids, bet)[1], given), 5)
        self.assertEqual(self.check(SIX, bids, on(("f", "not"), given)), ((3, 7), (4, 7)))

    def test_a_bids_own_bet(self):
        maker = Maker(61)
        for turn in range(30):
            house = maker.house()
            layers, bids = maker.borne(house, 4)
            for bet, price in bids:
                lowest, highest = self.check(house, bids, bet)
                self.assertGreaterEqual(worth(lowest), worth(price))

    def test_means_lie_between(self):
        maker = Maker(62)
        for turn in range(80):
            house = maker.house(1, 5)
            layers, bids = maker.borne(house, maker.dice.choice((1, 2, 3, 6, 12)))
            bet = maker.living_bet(house)
            lowest, highest = [worth(one) for one in self.check(house, bids, bet)]
            for borne in (layers, judged(house, bids)[1], low_of(house, bids, bet)[1], high_of(house, bids, bet)[1]):
                self.assertIs(right_layers(house, bids, borne), True)
                mean = mean_through(house, borne, bet)
                if mean is not None:
                    self.assertLessEqual(lowest, mean)
                    self.assertLessEqual(mean, highest)

    def test_each_fraction_between_is_meant(self):
        maker = Maker(63)
        for turn in range(30):
            house = maker.house()
            layers, bids = maker.borne(house, 3)
            bet = maker.living_bet(house)
            lowest, highest = low(house, bids, bet), high(house, bids, bet)
            for share in (0, Fraction(1, 3), Fraction(1, 2), 1):
                price = pair_of(lowest + share * (highest - lowest))
                kind, borne = judged(house, bids + both_ways(bet, price))
                self.assertEqual(kind, "fair")
                self.assertEqual(mean_in(house, borne, bet), price)
            for price in (lowest - BIT, highest + BIT):
                self.assertEqual(judged(house, bids + both_ways(bet, pair_of(price)))[0], "loss")

    def test_bets_with_one_given(self):
        maker = Maker(64)
        for turn in range(30):
            house = maker.house()
            bids = maker.borne(house, 3)[1]
            bet = maker.living_bet(house)
            other = (maker.bet(house[0])[0], bet[1])
            ahead = low(house, bids, bet)
            self.assertGreaterEqual(low(house, bids, together(bet, other)), ahead + low(house, bids, other))
            more = together(bet, ((((2, 3), maker.saying(house[0])),), bet[1]))
            self.assertGreaterEqual(low(house, bids, more), ahead)
            for share in ((0, 1), (2, 7), (5, 1)):
                self.assertEqual(low(house, bids, so_often(bet, share)), ahead * worth(share))
            for amount in ((-3, 4), (0, 1), (9, 2)):
                self.assertEqual(low(house, bids, with_more(bet, amount)), ahead + worth(amount))

    def test_one_world(self):
        house = ("ab", (("a",), ("b", "not")))
        bids = ((on(("a",)), (1, 3)),)
        self.assertEqual(self.check(house, bids, on(("a",))), ((1, 1), (1, 1)))
        self.assertEqual(self.check(house, bids, on(("b",), ("a",))), ((0, 1), (0, 1)))
        check_refused(self, NoBet, low_of, house, bids, on(("a",), ("b",)))

    def test_six_letters_and_twelve_bids(self):
        maker = Maker(65)
        for turn in range(6):
            bids = maker.borne(SIX, 12)[1]
            self.check(SIX, bids, maker.living_bet(SIX))

    def test_great_figures(self):
        top = 10 ** 299 + 7
        bids = both_ways(on(("a",)), (top, 3 * top + 1)) + ((on(("b",), ("a",)), (top, top + 2)),)
        price = Fraction(top, 3 * top + 1) * Fraction(top, top + 2)
        self.assertEqual(self.check(HOUSE, bids, on(("a", "b", "and")))[0], pair_of(price))

    def test_refused(self):
        for asked in (low_of, high_of):
            check_refused(self, Unfair, asked, HOUSE, UNFAIR, A_BY_B)
            check_refused(self, Unfair, asked, HOUSE, UNFAIR, NEVER)
            check_refused(self, NoBet, asked, HOUSE, UNFAIR[:1], NEVER)
            check_refused(self, NoBet, asked, HOUSE, (), ((), ("no",)))
            check_refused(self, NoBet, asked, ("ab", (("b", "not"),)), (), A_BY_B)
            check_refused(self, Unfair, asked, ("ab", (("a", "not"),)), UNFAIR[:1], A_BY_B)

    def test_asked_again(self):
        maker = Maker(66)
        calls = []
        for turn in range(8):
            house = maker.house()
            bids, bet = maker.borne(house, 3)[1], maker.living_bet(house)
            calls += [(house, bids, bet), (house, bids[:2], bet), (house, (), bet)]
        check_steady(self, low_of, calls)
        check_steady(self, high_of, calls)


class TestTakes(unittest.TestCase):

    def test_just_at_the_highest_price(self):
        maker = Maker(67)
        for turn in range(40):
            house = maker.house()
            bids = maker.borne(house, maker.dice.choice((0, 1, 3, 11)))[1]
            bet = maker.living_bet(house)
            highest = high_of(house, bids, bet)[0]
            for amount, due in ((0, True), (-BIT, True), (-4, True), (BIT, False), (Fraction(1, 3), False), (5, False)):
                self.assertIs(takes(house, bids, (bet, shifted(highest, amount))), due)

    def test_what_weighs_nothing(self):
        bids = ((on(("b", "not")), (1, 1)), (turned(A_BY_B), (-2, 7)))
        self.assertIs(takes(HOUSE, bids, (A_BY_B, (2, 7))), True)
        self.assertIs(takes(HOUSE, bids, (A_BY_B, shifted((2, 7), BIT))), False)
        self.assertIs(takes(HOUSE, bids, (on(("b",)), (0, 1))), True)
        self.assertIs(takes(HOUSE, bids, (on(("b",)), pair_of(BIT))), False)

    def test_no_bids(self):
        self.assertIs(takes(HOUSE, (), (A_BY_B, (1, 1))), True)
        self.assertIs(takes(HOUSE, (), (A_BY_B, (1001, 1000))), False)

    def test_refused(self):
        check_refused(self, Unfair, takes, HOUSE, UNFAIR, (A_BY_B, (-5, 1)))
        check_refused(self, Unfair, takes, HOUSE, UNFAIR, (A_BY_B, (5, 1)))
        check_refused(self, Unfair, takes, HOUSE, ((A_BY_B, (2, 1)),), (A_BY_B, (0, 1)))

    def test_asked_again(self):
        maker = Maker(68)
        houses = [maker.house() for turn in range(12)]
        check_steady(self, takes, [(house, maker.borne(house, 2)[1], maker.bid(house)) for house in houses])


if __name__ == "__main__":
    unittest.main()
