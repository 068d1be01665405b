"""Points 11 and 23: bids."""

import unittest

from betstall.bids import are_bids, both_ways
from betstall.layers import right_layers

from tests.helpers import GREAT, Maker, check_checker, mean, pair_of, right_bids, variants

BET = ((((1, 1), ("a",)),), ("b",))
BID = (BET, (1, 2))


class TestAreBids(unittest.TestCase):

    def test_how_many(self):
        for many in (0, 1, 11, 12):
            self.assertIs(are_bids(("ab", ()), (BID,) * many), True)
        for many in (13, 14, 100):
            self.assertIs(are_bids(("ab", ()), (BID,) * many), False)

    def test_a_bet_that_lives_nowhere(self):
        for given in (("no",), ("a", "a", "not", "and")):
            self.assertIs(are_bids(("ab", ()), ((((), given), (0, 1)),)), False)
        self.assertIs(are_bids(("ab", ()), (BID,)), True)
        self.assertIs(are_bids(("ab", (("b", "not"),)), (BID,)), False)
        self.assertIs(are_bids(("ab", (("b",),)), (BID,)), True)
        self.assertIs(are_bids(("ab", (("b", "not"),)), ((((), ("yes",)), (0, 1)), BID)), False)
        self.assertIs(are_bids(("ab", ()), (BID,)), True)

    def test_a_bet_that_is_none(self):
        for bet in (((((1, 1), ("c",)),), ("b",)), ((), ("c",)), ((((2, 2), ("a",)),), ("b",)), (BET,), None, (), 1):
            self.assertIs(are_bids(("ab", ()), ((bet, (1, 2)),)), False)
        self.assertIs(are_bids(("ab", ()), (((BET[0] * 8, ("b",)), (1, 2)),)), True)
        self.assertIs(are_bids(("ab", ()), (((BET[0] * 9, ("b",)), (1, 2)),)), False)

    def test_a_price_that_is_no_fraction(self):
        for price in ((2, 4), (1, 0), (True, 1), [1, 2], 1, None, "1", (1,), (1, 2, 3), (1, -2)):
            self.assertIs(are_bids(("ab", ()), ((BET, price),)), False)
            self.assertIs(are_bids(("ab", ()), (BID, (BET, price))), False)
        for price in ((-5, 1), (0, 1), (GREAT, GREAT + 1)):
            self.assertIs(are_bids(("ab", ()), ((BET, price),)), True)

    def test_rows(self):
        for thing in ([BID], [], BID, (list(BID),), (BID + ((),),), ((BET,),), None, {}, "", True):
            self.assertIs(are_bids(("ab", ()), thing), False)

    def test_anything(self):
        maker = Maker(22)
        houses = (("ab", ()), ("a", ()), ("ab", (("b",),)), ("abc", (("a", "b", "or"), ("c", "not"))))
        for house in houses + houses[:1]:
            others = variants((BID,)) + variants(maker.bids(house, 1)) + [maker.bids(other, 2) for other in houses]
            check_checker(self, lambda thing: are_bids(house, thing), lambda thing: right_bids(house, thing), others)


class TestBothWays(unittest.TestCase):

    def test_at_below_and_above_zero(self):
        bet = ((((1, 1), ("a",)), ((-2, 3), ("b",))), ("b",))
        other = ((((-1, 1), ("a",)), ((2, 3), ("b",))), ("b",))
        for price, about in (((0, 1), (0, 1)), ((1, 2), (-1, 2)), ((-3, 1), (3, 1))):
            self.assertEqual(both_ways(bet, price), ((bet, price), (other, about)))
            self.assertIs(are_bids(("ab", ()), both_ways(bet, price)), True)
        self.assertEqual(both_ways(((), ("b",)), (1, 1)), ((((), ("b",)), (1, 1)), (((), ("b",)), (-1, 1))))

    def test_layers_that_bear_both_mean_the_price(self):
        maker = Maker(23)
        for turn in range(40):
            house = maker.house()
            bet, weighing = maker.bid(house)[0], maker.weighing(house)
            due = mean(house, weighing, bet)
            if due is not None:
                self.assertIs(right_layers(house, both_ways(bet, pair_of(due)), (weighing,)), True)
                for near in (due + 1, due - 1):
                    self.assertIs(right_layers(house, both_ways(bet, pair_of(near)), (weighing,)), False)


if __name__ == "__main__":
    unittest.main()
