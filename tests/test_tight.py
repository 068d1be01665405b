"""Point 20: tightened lists."""

import unittest
from fractions import Fraction

from betstall.bets import so_often, turned
from betstall.bids import are_bids, both_ways
from betstall.errors import Unfair
from betstall.judging import judged
from betstall.layers import right_layers
from betstall.prices import high_of, low_of
from betstall.tight import are_tight, tightened

from tests.helpers import GREAT, Maker, check_refused, check_steady, shifted, worth

HOUSE = ("ab", ())
SIX = ("abcdef", ())
BIT = Fraction(1, GREAT)


def on(saying, given=("yes",)):
    return ((((1, 1), saying),), given)


A_BY_B = on(("a",), ("b",))
UNFAIR = ((on(("a",)), (2, 3)), (on(("a", "not")), (1, 2)))


class TestTightened(unittest.TestCase):

    def test_no_bids(self):
        self.assertEqual(tightened(HOUSE, ()), ())
        self.assertIs(are_tight(HOUSE, ()), True)

    def test_told_ones(self):
        both = on(("a", "b", "and"))
        bids = ((A_BY_B, (2, 3)), (on(("b",)), (1, 5)), (both, (0, 1)))
        self.assertEqual(tightened(HOUSE, bids), bids[:2] + ((both, (2, 15)),))
        self.assertEqual(tightened(HOUSE, bids[::-1]), ((both, (2, 15)),) + bids[1::-1])
        self.assertEqual(tightened(HOUSE, ((A_BY_B, (-7, 1)),)), ((A_BY_B, (0, 1)),))
        self.assertEqual(tightened(HOUSE, ((both, (1, 2)), (on(("b",)), (1, 3)))),
                         ((both, (1, 2)), (on(("b",)), (1, 2))))

    def test_the_same_bid_again_at_a_lower_price(self):
        for other in ((1, 3), (0, 1), (-2, 1), shifted((1, 2), -BIT)):
            bids = ((A_BY_B, (1, 2)), (A_BY_B, other))
            self.assertEqual(tightened(HOUSE, bids), ((A_BY_B, (1, 2)),) * 2)
            self.assertEqual(tightened(HOUSE, bids[::-1]), ((A_BY_B, (1, 2)),) * 2)
            self.assertIs(are_tight(HOUSE, bids), False)
        self.assertEqual(tightened(HOUSE, ((A_BY_B, (1, 2)), (so_often(A_BY_B, (3, 1)), (1, 1)))),
                         ((A_BY_B, (1, 2)), (so_often(A_BY_B, (3, 1)), (3, 2))))

    def test_what_weighs_nothing(self):
        sure = (on(("b", "not")), (1, 1))
        bids = (sure, (A_BY_B, (1, 3)), (turned(on(("b",))), (-1, 2)), (on(("a",), ("a", "b", "or")), (-1, 1)))
        self.assertEqual(tightened(HOUSE, bids),
                         (sure, (A_BY_B, (1, 3)), (turned(on(("b",))), (0, 1)),
                          (on(("a",), ("a", "b", "or")), (1, 3))))

    def test_tight_and_no_price_falls(self):
        maker = Maker(70)
        raised = 0
        for turn in range(50):
            house = maker.house(1, 4)
            layers, bids = maker.borne(house, maker.dice.choice((1, 2, 3, 5, 12)))
            told = tightened(house, bids)
            self.assertIs(are_bids(house, told), True)
            self.assertEqual([bet for bet, price in told], [bet for bet, price in bids])
            for (bet, price), (same, asked) in zip(told, bids):
                self.assertEqual(price, low_of(house, bids, bet)[0])
                self.assertEqual(price, low_of(house, told, bet)[0])
                self.assertGreaterEqual(worth(price), worth(asked))
            raised += told != bids
            self.assertEqual(tightened(house, told), told)
            self.assertIs(are_tight(house, told), True)
            self.assertIs(are_tight(house, bids), told == bids)
        self.assertGreater(raised, 20)

    def test_borne_by_just_the_same_layers(self):
        maker = Maker(71)
        for turn in range(40):
            house = maker.house(1, 3)
            layers, bids = maker.borne(house, 3)
            told = tightened(house, bids)
            for borne in (layers, judged(house, bids)[1], high_of(house, bids, maker.living_bet(house))[1]):
                self.assertIs(right_layers(house, told, borne), True)
            for other in [maker.layers(house, 3) for again in range(5)]:
                self.assertIs(right_layers(house, told, other), right_layers(house, bids, other))

    def test_one_price_a_bit_less(self):
        maker = Maker(72)
        for turn in range(30):
            house = maker.house(1, 3)
            bids = tightened(house, maker.borne(house, 3)[1])
            place = maker.dice.randint(0, 2)
            bet, price = bids[place]
            less = bids[:place] + ((bet, shifted(price, -BIT)),) + bids[place + 1:]
            told = are_tight(house, less)
            self.assertIs(told, low_of(house, less, bet)[0] == shifted(price, -BIT)
                          and all(low_of(house, less, other)[0] == asked for other, asked in less))
        self.assertIs(are_tight(HOUSE, ((A_BY_B, (0, 1)),)), True)
        self.assertIs(are_tight(HOUSE, ((A_BY_B, shifted((0, 1), -BIT)),)), False)
        pair = both_ways(A_BY_B, (1, 2))
        self.assertIs(are_tight(HOUSE, pair), True)
        self.assertIs(are_tight(HOUSE, (pair[0], (pair[1][0], shifted((-1, 2), -BIT)))), True)
        two = ((on(("a", "b", "and")), (1, 2)), (on(("b",)), (1, 2)))
        self.assertIs(are_tight(HOUSE, two), True)
        self.assertIs(are_tight(HOUSE, (two[0], (two[1][0], shifted((1, 2), -BIT)))), False)

    def test_six_letters_and_twelve_bids(self):
        maker = Maker(73)
        bids = maker.borne(SIX, 12)[1]
        self.assertIs(are_tight(SIX, tightened(SIX, bids)), True)

    def test_unfair(self):
        for asked in (tightened, are_tight):
            check_refused(self, Unfair, asked, HOUSE, UNFAIR)
            check_refused(self, Unfair, asked, HOUSE, ((A_BY_B, (1, 2)), (A_BY_B, (2, 1))))
            check_refused(self, Unfair, asked, ("ab", (("a", "not"),)), UNFAIR[:1])

    def test_asked_again(self):
        maker = Maker(74)
        houses = [maker.house() for turn in range(8)]
        calls = [(house, maker.borne(house, 3)[1]) for house in houses]
        check_steady(self, tightened, calls)
        check_steady(self, are_tight, calls)


if __name__ == "__main__":
    unittest.main()
