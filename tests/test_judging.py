"""Point 16: fair or unfair."""

import unittest
from fractions import Fraction

from betstall.bets import so_often, turned
from betstall.bids import both_ways
from betstall.books import right_loss
from betstall.fractions import turned_about
from betstall.judging import judged
from betstall.layers import right_layers

from tests.helpers import (GREAT, Maker, check_steady, even, layers_right, losing, pair_of, paid, shifted, worlds,
                           worth)

HOUSE = ("ab", ())
SIX = ("abcdef", ())
ONE_WORLD = ("ab", (("a",), ("b", "not")))
ON_A = ((((1, 1), ("a",)),), ("yes",))


def on(saying, given=("yes",)):
    return ((((1, 1), saying),), given)


def all_of(letters):
    """The saying that all of some letters are so."""
    return tuple(letters) + ("and",) * (len(letters) - 1)


def nested_bids(depth, price=(1, 1)):
    """For each of the first letters, that it surely isn't so, called off but for all letters ahead of it."""
    bids = []
    for at in range(depth):
        given = ("yes",) if at == 0 else all_of("abcdef"[:at])
        bids.append((on(("abcdef"[at], "not"), given), price if at == depth - 1 else (1, 1)))
    return tuple(bids)


def greatest(house, bet):
    return max(due for due in [paid(house[0], bet, world) for world in worlds(house)] if due is not None)


class TestJudged(unittest.TestCase):

    def check(self, house, bids):
        """What is told, looked over in two ways."""
        told = judged(house, bids)
        self.assertIs(type(told), tuple)
        kind, what = told
        self.assertIn(kind, ("fair", "loss"))
        if kind == "fair":
            self.assertIs(right_layers(house, bids, what), True)
            self.assertTrue(layers_right(house, bids, what))
            self.assertLessEqual(len(what), len(bids))
        else:
            self.assertIs(right_loss(house, bids, what), True)
            self.assertTrue(losing(house, bids, what))
        return kind

    def test_no_bids(self):
        for house in (HOUSE, SIX, ONE_WORLD):
            self.assertEqual(judged(house, ()), ("fair", ()))

    def test_one_bid_at_the_greatest_that_is_paid(self):
        maker = Maker(41)
        bit = Fraction(1, GREAT)
        for turn in range(30):
            house = maker.house()
            bet = maker.living_bet(house)
            most = greatest(house, bet)
            for amount, kind in ((0, "fair"), (-bit, "fair"), (-5, "fair"), (bit, "loss"), (7, "loss")):
                self.assertEqual(self.check(house, ((bet, pair_of(most + amount)),)), kind)

    def test_borne_at_their_means_and_beneath(self):
        maker = Maker(42)
        for turn in range(60):
            house = maker.house(1, 5)
            many = maker.dice.choice((1, 2, 3, 5, 8, 12))
            layers, bids = maker.borne(house, many, turn > 20)
            self.assertTrue(layers_right(house, bids, layers))
            self.assertEqual(self.check(house, bids), "fair")

    def test_unfair_by_one_bid_more(self):
        maker = Maker(43)
        for turn in range(60):
            house = maker.house(1, 5)
            layers, bids = maker.borne(house, maker.dice.choice((1, 2, 3, 5, 8, 11)))
            bet, price = maker.dice.choice(bids)
            bit = Fraction(1, maker.dice.choice((2, 1000, GREAT)))
            further = (turned(bet), shifted(turned_about(price), bit))
            place = maker.dice.randint(0, len(bids))
            self.assertEqual(self.check(house, bids[:place] + (further,) + bids[place:]), "loss")
            self.assertEqual(self.check(house, bids), "fair")

    def test_whatever_list(self):
        maker = Maker(44)
        kinds = []
        for turn in range(120):
            house = maker.house(1, 5)
            kinds.append(self.check(house, maker.bids(house, maker.dice.choice((1, 2, 3, 4, 12)))))
        self.assertGreater(kinds.count("fair"), 20)
        self.assertGreater(kinds.count("loss"), 20)

    def test_another_order_and_a_bid_twice(self):
        maker = Maker(45)
        for turn in range(40):
            house = maker.house()
            bids = maker.borne(house, 4)[1] if turn % 2 else maker.bids(house, 3)
            kind = self.check(house, bids)
            mixed = list(bids)
            maker.dice.shuffle(mixed)
            self.assertEqual(self.check(house, tuple(mixed)), kind)
            self.assertEqual(self.check(house, bids[::-1]), kind)
            self.assertEqual(self.check(house, bids + (maker.dice.choice(bids),)), kind)
            self.assertEqual(self.check(house, bids + bids), kind)

    def test_called_off_on_what_weighs_nothing(self):
        for depth in (2, 3, 4, 5):
            bids = nested_bids(depth)
            for row in (bids, bids[::-1]):
                self.assertEqual(self.check(SIX, row), "fair")
                # Each bid but the first lives just where those ahead of it weigh nothing.
                self.assertEqual(len(judged(SIX, row)[1]), depth)
            above = nested_bids(depth, (GREAT + 1, GREAT))
            self.assertEqual(self.check(SIX, above), "loss")
            self.assertEqual(self.check(SIX, above[::-1]), "loss")

    def test_a_loss_behind_what_weighs_nothing(self):
        for depth in (2, 3, 4, 5):
            given = all_of("abcdef"[:depth])
            bids = nested_bids(depth) + both_ways(on(("f",), given), (1, 3))
            self.assertEqual(self.check(SIX, bids), "fair")
            self.assertEqual(len(judged(SIX, bids)[1]), depth + 1)
            further = (on(("f", "not"), given), (2, 3))
            self.assertEqual(self.check(SIX, bids + (further,)), "fair")
            self.assertEqual(self.check(SIX, bids + ((further[0], shifted((2, 3), Fraction(1, 99))),)), "loss")

    def test_products(self):
        # Who gives p for a called off but for b, and q for b, is unfair at another price of both than p times q.
        both = ("a", "b", "and")
        ahead = both_ways(on(("a",), ("b",)), (2, 3)) + both_ways(on(("b",)), (1, 5))
        self.assertEqual(self.check(HOUSE, ahead + both_ways(on(both), (2, 15))), "fair")
        for price in ((1, 15), (3, 15 + 1), (2001, 15000), (1999, 15000), (0, 1), (1, 1)):
            self.assertEqual(self.check(HOUSE, ahead + both_ways(on(both), price)), "loss")
        ahead = both_ways(on(("a",), ("b",)), (2, 3)) + both_ways(on(("b",)), (0, 1))
        self.assertEqual(self.check(HOUSE, ahead + both_ways(on(both), (0, 1))), "fair")
        self.assertEqual(self.check(HOUSE, ahead + both_ways(on(both), (1, 900))), "loss")

    def test_one_world(self):
        for price, kind in (((1, 1), "fair"), ((0, 1), "fair"), ((1001, 1000), "loss")):
            self.assertEqual(self.check(ONE_WORLD, ((ON_A, price),)), kind)
            self.assertEqual(self.check(ONE_WORLD, ((ON_A, (1, 1)), (ON_A, price))), kind)
        self.assertEqual(judged(ONE_WORLD, ((ON_A, (1, 1)),)), ("fair", (((1, 1),),)))

    def test_six_letters_and_twelve_bids(self):
        maker = Maker(46)
        for turn in range(12):
            layers, bids = maker.borne(SIX, 12)
            self.assertEqual(self.check(SIX, bids), "fair")
            bet, price = bids[turn]
            worse = list(bids)
            worse[turn - 1] = (so_often(turned(bet), (3, 1)), pair_of(-3 * worth(price) + Fraction(1, 10 ** 30)))
            self.assertEqual(self.check(SIX, tuple(worse)), "loss")

    def test_great_figures(self):
        top = 10 ** 299 + 7
        bids = both_ways(on(("a",)), (top, 3 * top + 1)) + both_ways(on(("b",), ("a",)), (top, top + 2))
        self.assertEqual(self.check(HOUSE, bids), "fair")
        price = pair_of(Fraction(top, 3 * top + 1) * Fraction(top, top + 2))
        both = ("a", "b", "and")
        self.assertEqual(self.check(HOUSE, bids + both_ways(on(both), price)), "fair")
        self.assertEqual(self.check(HOUSE, bids + ((on(both), shifted(price, Fraction(1, top))),)), "loss")

    def test_the_house_counts(self):
        bids = ((on(("a",)), (1, 2)), (on(("a", "not")), (1, 3)))
        self.assertEqual(self.check(HOUSE, bids), "fair")
        self.assertEqual(self.check(("ab", (("a",),)), bids), "loss")
        self.assertEqual(self.check(HOUSE, bids), "fair")

    def test_asked_again(self):
        maker = Maker(47)
        houses = [maker.house() for turn in range(6)]
        check_steady(self, judged, [(house, maker.bids(house, 3)) for house in houses]
                     + [(house, maker.borne(house, 4)[1]) for house in houses])

    def test_layers_that_bear_leave_no_loss(self):
        maker = Maker(48)
        for turn in range(20):
            house = maker.house()
            layers, bids = maker.borne(house, 3)
            self.assertIs(right_layers(house, bids, layers), True)
            self.assertEqual(judged(house, bids)[0], "fair")
        self.assertEqual(self.check(HOUSE, ((ON_A, even(HOUSE)[0]),)), "fair")


if __name__ == "__main__":
    unittest.main()
