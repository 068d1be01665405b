"""Point 17: price papers, looked over."""

import unittest
from fractions import Fraction

from betstall.lowpaper import right_low
from betstall.prices import low_of

from tests.helpers import GREAT, Maker, check_checker, even, low_right, shifted, things, variants

HOUSE = ("ab", ())
# The stall gives 1/4 for a and b, and sells b for 1/2: so a is worth 1/2 at least, called off but for b.
BOTH = ((((1, 1), ("a", "b", "and")),), ("yes",))
NO_B = ((((-1, 1), ("b",)),), ("yes",))
BIDS = ((BOTH, (1, 4)), (NO_B, (-1, 2)))
BET = ((((1, 1), ("a",)),), ("b",))
LAYER = ((1, 2), (1, 4), (0, 1), (1, 4))
PAPER = ((1, 2), (LAYER,), ((1, 1), (1, 2)), ((1, 1), (0, 1)))
NEVER = ((((1, 1), ("a",)),), ("no",))
UNFAIR = ((BOTH, (1, 4)), (BOTH, (2, 1)))
BIT = Fraction(1, GREAT)


def changed(**parts):
    names = ("price", "layers", "stakes", "more")
    return tuple(parts.get(name, part) for name, part in zip(names, PAPER))


class TestRightLow(unittest.TestCase):

    def check(self, thing, due, bids=BIDS, bet=BET, house=HOUSE):
        self.assertIs(right_low(house, bids, bet, thing), due)
        self.assertIs(low_right(house, bids, bet, thing), due)

    def test_a_paper_made_up_and_one_that_is_told(self):
        self.check(PAPER, True)
        told = low_of(HOUSE, BIDS, BET)
        self.assertEqual(told[0], (1, 2))
        self.check(told, True)

    def test_more_where_the_bet_is_called_off(self):
        for more in (((5, 1), (0, 1)), ((1, 1), (1, 4)), ((4, 1), (1999, 1000)), ((GREAT, 1), (1, GREAT))):
            self.check(changed(more=more), True)
        for more in (((0, 1), (0, 1)), ((1, 1), (1, 2)), ((0, 1), (1, 1)), ((1, 1), (3, 4)), ((4, 1), (2001, 1000))):
            self.check(changed(more=more), False)

    def test_stakes_where_the_bet_is_called_off(self):
        # At most 0 there, be it just 0; and at most what is paid less the price where it lives.
        for stakes in (((1, 1), (shifted((1, 2), BIT))), ((shifted((1, 1), BIT)), (1, 2)), ((1, 1), (0, 1)),
                       ((0, 1), (1, 2)), ((2, 1), (1, 1)), ((shifted((1, 1), -BIT)), (1, 2)), ((0, 1), (0, 1))):
            self.check(changed(stakes=stakes), False)

    def test_stakes_that_lose_more_than_need_be(self):
        # A lesser price leaves room, but layers must have it as the bet's mean.
        bids = BIDS + ((BET, (1, 3)),)
        self.check(((1, 2), (LAYER,), ((1, 1), (1, 2), (0, 1)), ((1, 1), (0, 1), (0, 1))), True, bids)
        self.check(((1, 3), (LAYER,), ((0, 1), (0, 1), (1, 1)), ((0, 1), (0, 1), (0, 1))), False, bids)
        thirds = ((1, 4), (1, 2), (0, 1), (1, 4))
        own = ((BET, (1, 3)),)
        self.check(((1, 3), (thirds,), ((1, 1),), ((0, 1),)), True, own)
        # The bid lives just where the bet does: whatever more is, nothing is asked of it.
        for more in ((0, 1), (1, 1), (GREAT, 7)):
            self.check(((1, 3), (thirds,), ((1, 1),), (more,)), True, own)
        self.check(((1, 3), (thirds,), ((2, 1),), ((0, 1),)), False, own)
        self.check(((1, 3), (thirds,), ((0, 1),), ((0, 1),)), False, own)

    def test_more_alone_reaches_other_worlds(self):
        # A stake in more calls for a loss at each world that it reaches, though stakes has none there.
        bids = ((BET, (1, 3)), (((((1, 1), ("a",)),), ("b", "not")), (1, 2)))
        layers = (((1, 8), (1, 2), (1, 8), (1, 4)),)
        self.check(((1, 3), layers, ((1, 1), (0, 1)), ((0, 1), (0, 1))), True, bids)
        self.check(((1, 3), layers, ((1, 1), (0, 1)), ((7, 1), (0, 1))), True, bids)
        self.check(((1, 3), layers, ((1, 1), (0, 1)), ((0, 1), (1, 1))), False, bids)
        self.check(((1, 3), layers, ((1, 1), (1, GREAT)), ((0, 1), (0, 1))), False, bids)
        # Some of the worlds that more reaches gain, others lose.
        half = ((((1, 1), ("a",)),), ("a", "b", "or"))
        bids = ((BET, (1, 3)), (half, (1, 2)))
        layers = (((0, 1), (1, 2), (1, 4), (1, 4)),)
        self.check(((1, 3), layers, ((1, 1), (0, 1)), ((0, 1), (0, 1))), True, bids)
        self.check(((1, 3), layers, ((1, 1), (0, 1)), ((0, 1), (1, 1))), False, bids)

    def test_stakes_and_more_exchanged(self):
        price, layers, stakes, more = PAPER
        self.check((price, layers, more, stakes), False)
        self.check((price, layers, stakes, stakes), False)
        self.check((price, layers, more, more), False)

    def test_the_price_a_bit_beside(self):
        for price in (shifted((1, 2), BIT), shifted((1, 2), -BIT), (0, 1), (1, 1), (-1, 2), (2, 4), 0, None, True):
            self.check(changed(price=price), False)
        # Layers with another mean, though they bear the bids, go with no price.
        other = ((1, 2), (1, 8), (0, 1), (3, 8))
        for price in ((1, 2), (3, 4), (1, 4)):
            self.check(changed(price=price, layers=(other,)), False)

    def test_layers_put_round(self):
        bids = ((((((1, 1), ("b", "not")),), ("yes",)), (1, 1)), (BET, (1, 3)))
        first = ((1, 1), (0, 1), (0, 1), (0, 1))
        then = ((0, 1), (2, 3), (0, 1), (1, 3))
        paper = ((1, 3), (first, then), ((0, 1), (1, 1)), ((0, 1), (0, 1)))
        self.check(paper, True, bids)
        self.check(((1, 3), (then, first), ((0, 1), (1, 1)), ((0, 1), (0, 1))), False, bids)
        for layers in ((first,), (then,), (), (first, first), (first, even(HOUSE), then)):
            self.check(((1, 3), layers, ((0, 1), (1, 1)), ((0, 1), (0, 1))), False, bids)
        for many, due in ((38, True), (39, True), (40, False), (41, False)):
            self.check(((1, 3), (first,) * many + (then,), ((0, 1), (1, 1)), ((0, 1), (0, 1))), due, bids)

    def test_forty_and_one_more(self):
        for many, due in ((1, True), (2, True), (40, True), (41, False)):
            self.check(changed(layers=(LAYER,) * many), due)

    def test_no_bids(self):
        self.check(((0, 1), (((0, 1), (1, 1), (0, 1), (0, 1)),), (), ()), True, ())
        self.check(((0, 1), (even(HOUSE),), (), ()), False, ())
        self.check(((1, 2), (even(HOUSE),), (), ()), False, ())
        self.check(((0, 1), (), (), ()), False, ())
        self.check(((0, 1), (((0, 1), (1, 1), (0, 1), (0, 1)),), ((0, 1),), ()), False, ())
        self.check(((0, 1), (((0, 1), (1, 1), (0, 1), (0, 1)),), (), ((0, 1),)), False, ())

    def test_rows_that_are_none(self):
        price, layers, stakes, more = PAPER
        for thing in (list(PAPER), PAPER[:3], PAPER + ((),), (price, list(layers), stakes, more), (), None, {},
                      (price, layers, list(stakes), more), (price, layers, stakes, list(more)), "", 4, True,
                      (price, layers, stakes[:1], more), (price, layers, stakes, more[:1]),
                      (price, layers, stakes + ((0, 1),), more), (price, layers, stakes, more + ((0, 1),)),
                      (price, layers, stakes, ((1, 1), (-1, 9))), (price, layers, ((1, 1), (-1, 2)), more)):
            self.check(thing, False)

    def test_unfair_bids_and_bets_that_live_nowhere(self):
        papers = [PAPER, low_of(HOUSE, BIDS, BET)]
        others = papers + variants(PAPER)[::7]
        for bids, bet in ((UNFAIR, BET), (BIDS, NEVER), (UNFAIR, NEVER)):
            check_checker(self, lambda thing: right_low(HOUSE, bids, bet, thing), lambda thing: False, others)
        self.check(PAPER, False, bids=((BOTH, (1, 4)), (NO_B, (-1, 2)), (BOTH, (2, 1))))
        nowhere = ("ab", (("b", "not"),))
        for thing in papers + things():
            self.assertIs(right_low(nowhere, ((NO_B, (-1, 2)),), BET, thing), False)

    def test_another_house_another_list_another_bet(self):
        self.check(PAPER, True)
        self.check(PAPER, False, house=("ab", (("a", "b", "or"),)))
        self.check(PAPER, False, bids=BIDS[::-1])
        self.check(PAPER, False, bet=(BET[0], ("a",)))
        self.check(PAPER, True)

    def test_anything(self):
        maker = Maker(50)
        cases = [(HOUSE, BIDS, BET, PAPER), (HOUSE, (), BET, low_of(HOUSE, (), BET))]
        house = maker.house(1, 2)
        bids, bet = maker.borne(house, 2)[1], maker.living_bet(house)
        cases.append((house, bids, bet, low_of(house, bids, bet)))
        for house, bids, bet, paper in cases + cases[:1]:
            self.assertTrue(right_low(house, bids, bet, paper))
            check_checker(self, lambda thing: right_low(house, bids, bet, thing),
                          lambda thing: low_right(house, bids, bet, thing), variants(paper))

    def test_what_a_checker_lets_by_is_so(self):
        maker = Maker(51)
        for turn in range(60):
            house = maker.house(1, 3)
            layers, bids = maker.borne(house, 3)
            bet = maker.living_bet(house)
            price, low_layers, stakes, more = low_of(house, bids, bet)
            for turn_again in range(10):
                thing = maker.dice.choice((
                    (price, layers, stakes, more), (price, low_layers, maker.stakes(3), more),
                    (price, low_layers, stakes, maker.stakes(3)), (maker.fraction(), low_layers, stakes, more)))
                self.check(thing, low_right(house, bids, bet, thing), bids, bet, house)


if __name__ == "__main__":
    unittest.main()
