"""Point 21: idle bids."""

import unittest
from fractions import Fraction

from betstall.bets import so_often, turned
from betstall.errors import Unfair
from betstall.idle import idle_in, without_idle
from betstall.prices import low_of

from tests.helpers import GREAT, Maker, check_refused, check_steady, pair_of, shifted, worth

HOUSE = ("ab", ())
SIX = ("abcdef", ())
BIT = Fraction(1, GREAT)


def on(saying, given=("yes",)):
    return ((((1, 1), saying),), given)


A_BY_B = on(("a",), ("b",))
ON_B = on(("b",))
BOTH = on(("a", "b", "and"))
UNFAIR = ((on(("a",)), (2, 3)), (on(("a", "not")), (1, 2)))


def idle_by_prices(house, bids):
    """The idle ones, told by the lowest prices of the others alone."""
    return tuple(at for at, (bet, price) in enumerate(bids)
                 if worth(low_of(house, bids[:at] + bids[at + 1:], bet)[0]) >= worth(price))


def left_by_prices(house, bids):
    """Those left over, told by going through them from the last to the first."""
    left = list(range(len(bids)))
    for at in reversed(range(len(bids))):
        row = tuple(bids[number] for number in left)
        if left.index(at) in idle_by_prices(house, row):
            left.remove(at)
    return tuple(left)


class TestIdle(unittest.TestCase):

    def check(self, house, bids, idle, left):
        self.assertEqual(idle_in(house, bids), idle)
        self.assertEqual(without_idle(house, bids), left)
        self.assertEqual(idle_by_prices(house, bids), idle)
        self.assertEqual(left_by_prices(house, bids), left)

    def test_no_bids(self):
        self.check(HOUSE, (), (), ())

    def test_one_bid(self):
        self.check(HOUSE, ((A_BY_B, (1, 2)),), (), (0,))
        self.check(HOUSE, ((A_BY_B, pair_of(BIT)),), (), (0,))
        self.check(HOUSE, ((A_BY_B, (0, 1)),), (0,), ())
        self.check(HOUSE, ((A_BY_B, (-3, 1)),), (0,), ())

    def test_a_bid_twice(self):
        # Each is idle for the other's sake alone: one of them is left.
        self.check(HOUSE, ((A_BY_B, (1, 2)),) * 2, (0, 1), (0,))
        self.check(HOUSE, ((A_BY_B, (1, 2)),) * 4, (0, 1, 2, 3), (0,))
        self.check(HOUSE, ((A_BY_B, (1, 2)), (ON_B, (1, 3)), (A_BY_B, (1, 2))), (0, 2), (0, 1))

    def test_a_bid_once_more_at_a_lower_price(self):
        for price in ((1, 3), (0, 1), shifted((1, 2), -BIT)):
            self.check(HOUSE, ((A_BY_B, (1, 2)), (A_BY_B, price)), (1,), (0,))
            self.check(HOUSE, ((A_BY_B, price), (A_BY_B, (1, 2))), (0,), (1,))

    def test_a_bid_so_many_times_as_great(self):
        for share in ((3, 1), (1, 7), (5, 2)):
            price = pair_of(worth(share) / 2)
            self.check(HOUSE, ((A_BY_B, (1, 2)), (so_often(A_BY_B, share), price)), (0, 1), (0,))
            self.check(HOUSE, ((A_BY_B, (1, 2)), (so_often(A_BY_B, share), shifted(price, BIT))), (0,), (1,))
            self.check(HOUSE, ((A_BY_B, (1, 2)), (so_often(A_BY_B, share), shifted(price, -BIT))), (1,), (0,))

    def test_brought_about_by_two_others(self):
        bids = ((A_BY_B, (2, 3)), (ON_B, (1, 5)), (BOTH, (2, 15)))
        self.check(HOUSE, bids, (2,), (0, 1))
        self.check(HOUSE, bids[::-1], (0,), (1, 2))
        self.check(HOUSE, bids[:2] + ((BOTH, shifted((2, 15), BIT)),), (), (0, 1, 2))
        self.check(HOUSE, bids[:2] + ((BOTH, shifted((2, 15), -BIT)),), (2,), (0, 1))

    def test_what_weighs_nothing(self):
        sure = (on(("b", "not")), (1, 1))
        self.check(HOUSE, (sure, (A_BY_B, (1, 2)), (turned(ON_B), (0, 1))), (0, 2), (0, 1))
        self.check(HOUSE, (sure, (A_BY_B, (1, 2)), (on(("a",), ("a", "b", "or")), (1, 2))), (2,), (0, 1))
        self.check(HOUSE, (sure, (A_BY_B, (0, 1))), (1,), (0,))

    def test_second_ways(self):
        maker = Maker(75)
        seen = []
        for turn in range(60):
            house = maker.house(1, 4)
            bids = maker.borne(house, maker.dice.choice((1, 2, 3, 4, 6)))[1]
            self.check(house, bids, idle_by_prices(house, bids), left_by_prices(house, bids))
            seen += idle_in(house, bids)
            self.assertIs(type(idle_in(house, bids)), tuple)
            self.assertIs(type(without_idle(house, bids)), tuple)
        self.assertGreater(len(seen), 20)

    def test_left_out_they_change_no_price(self):
        maker = Maker(76)
        for turn in range(40):
            house = maker.house(1, 4)
            bids = maker.borne(house, 5)[1]
            left = tuple(bids[number] for number in without_idle(house, bids))
            self.assertEqual(idle_in(house, left), ())
            self.assertEqual(without_idle(house, left), tuple(range(len(left))))
            for bet in [maker.living_bet(house) for again in range(3)] + [bet for bet, price in bids]:
                self.assertEqual(low_of(house, left, bet)[0], low_of(house, bids, bet)[0])

    def test_six_letters_and_twelve_bids(self):
        maker = Maker(77)
        bids = maker.borne(SIX, 11)[1]
        bids = bids[:4] + (bids[2],) + bids[4:]
        self.assertEqual(idle_in(SIX, bids), idle_by_prices(SIX, bids))
        self.assertIn(4, idle_in(SIX, bids))
        self.assertNotIn(4, without_idle(SIX, bids))

    def test_unfair(self):
        for asked in (idle_in, without_idle):
            check_refused(self, Unfair, asked, HOUSE, UNFAIR)
            check_refused(self, Unfair, asked, HOUSE, ((A_BY_B, (2, 1)),) * 2)
            check_refused(self, Unfair, asked, ("ab", (("a", "not"),)), UNFAIR[:1])

    def test_asked_again(self):
        maker = Maker(78)
        houses = [maker.house() for turn in range(8)]
        calls = [(house, maker.borne(house, 3)[1]) for house in houses]
        check_steady(self, idle_in, calls)
        check_steady(self, without_idle, calls)


if __name__ == "__main__":
    unittest.main()
