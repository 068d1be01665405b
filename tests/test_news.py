"""Point 24: what becomes of a list behind news."""

import unittest
from fractions import Fraction
from math import gcd

from betstall.bets import called_off, turned
from betstall.bids import are_bids, both_ways
from betstall.errors import NoWorld, TooLong, TooMany, Unfair
from betstall.houses import narrowed
from betstall.judging import judged
from betstall.news import carried
from betstall.prices import low_of
from betstall.tight import are_tight

from tests.helpers import Maker, always, check_refused, check_steady, pair_of, truth, worlds

HOUSE = ("ab", ())
SIX = ("abcdef", ())
EIGHT = ("ab", (("yes",),) * 8)
MOST = 10 ** 300


def on(saying, given=("yes",)):
    return ((((1, 1), saying),), given)


ON_A = on(("a",))
ON_B = on(("b",))
A_BY_B = on(("a",), ("b",))
BOTH = on(("a", "b", "and"))
UNFAIR = ((ON_A, (2, 3)), (on(("a", "not")), (1, 2)))


def by_part(top, bottom, rest_top, rest_bottom):
    """Bids by which, called off but for b, a is worth top/bottom divided by rest_top/rest_bottom at least."""
    return ((BOTH, pair_of(Fraction(top, bottom))), (turned(ON_B), pair_of(-Fraction(rest_top, rest_bottom))))


class TestCarried(unittest.TestCase):

    def check(self, house, bids, saying):
        """What is told, against the lowest prices by the list ahead."""
        told = carried(house, bids, saying)
        self.assertEqual((type(told), len(told)), (tuple, 2))
        behind, later = told
        self.assertEqual(behind, narrowed(house, saying))
        self.assertEqual(behind, (house[0], house[1] + (saying,)))
        alive = [bet for bet, price in bids
                 if any(truth(house[0], bet[1], world) and truth(house[0], saying, world) for world in worlds(house))]
        self.assertEqual(later, tuple((bet, low_of(house, bids, called_off(bet, saying))[0]) for bet in alive))
        self.assertIs(are_bids(behind, later), True)
        self.assertEqual(judged(behind, later)[0], "fair")
        self.assertIs(are_tight(behind, later), True)
        return later

    def test_told_ones(self):
        bids = ((BOTH, (1, 4)), (turned(ON_B), (-1, 2)), (ON_A, (1, 3)))
        self.assertEqual(self.check(HOUSE, bids, ("b",)), ((BOTH, (1, 2)), (turned(ON_B), (-1, 1)), (ON_A, (1, 2))))
        self.assertEqual(self.check(HOUSE, bids, ("b", "not")),
                         ((BOTH, (0, 1)), (turned(ON_B), (0, 1)), (ON_A, (0, 1))))

    def test_a_saying_that_holds_at_all_worlds(self):
        bids = ((BOTH, (1, 4)), (ON_B, (0, 1)), (A_BY_B, (1, 9)))
        due = ((BOTH, (1, 4)), (ON_B, (1, 4)), (A_BY_B, (1, 4)))
        for saying in (("yes",), ("a", "a", "not", "or"), ("no", "not")):
            self.assertEqual(self.check(HOUSE, bids, saying), due)
        self.assertEqual(self.check(("ab", (("b",),)), bids, ("b",)),
                         ((BOTH, (1, 4)), (ON_B, (1, 1)), (A_BY_B, (1, 4))))

    def test_bids_that_cannot_be_together_with_it(self):
        not_b = on(("a",), ("b", "not"))
        bids = ((A_BY_B, (1, 2)), (not_b, (1, 3)), (ON_A, (1, 4)), (not_b, (1, 9)))
        self.assertEqual(self.check(HOUSE, bids, ("b",)), ((A_BY_B, (1, 2)), (ON_A, (1, 2))))
        self.assertEqual(self.check(HOUSE, bids, ("b", "not")), ((not_b, (1, 3)), (ON_A, (1, 3)), (not_b, (1, 3))))
        self.assertEqual(self.check(HOUSE, bids[:1] * 2, ("b", "not")), ())

    def test_news_that_weighed_nothing(self):
        sure = (on(("b", "not")), (1, 1))
        bids = (sure,) + both_ways(A_BY_B, (2, 7)) + ((ON_A, (1, 2)),)
        self.assertEqual(self.check(HOUSE, bids, ("b",)),
                         ((sure[0], (0, 1)),) + both_ways(A_BY_B, (2, 7)) + ((ON_A, (2, 7)),))
        self.assertEqual(self.check(HOUSE, bids, ("b", "not")), (sure, (ON_A, (1, 2))))

    def test_no_bids(self):
        self.assertEqual(carried(HOUSE, (), ("b",)), (("ab", (("b",),)), ()))

    def test_whatever_fair_list(self):
        maker = Maker(90)
        carried_on = 0
        for turn in range(70):
            house = maker.house(1, 5)
            layers, bids = maker.borne(house, maker.dice.choice((1, 2, 3, 6, 12)), turn % 2 == 0)
            saying = maker.saying(house[0])
            if any(truth(house[0], saying, world) for world in worlds(house)):
                carried_on += len(self.check(house, bids, saying))
            else:
                check_refused(self, NoWorld, carried, house, bids, saying)
        self.assertGreater(carried_on, 60)

    def test_news_behind_news(self):
        maker = Maker(91)
        for turn in range(20):
            house, bids = SIX, maker.borne(SIX, 4)[1]
            for letter in "abcdef":
                saying = maker.dice.choice(((letter,), (letter, "not")))
                bids = self.check(house, bids, saying)
                house = narrowed(house, saying)
            self.assertEqual(len(worlds(house)), 1)

    def test_unfair_comes_first(self):
        check_refused(self, Unfair, carried, HOUSE, UNFAIR, ("b",))
        check_refused(self, Unfair, carried, HOUSE, UNFAIR, ("no",))
        check_refused(self, Unfair, carried, EIGHT, UNFAIR, ("b",))
        check_refused(self, Unfair, carried, EIGHT, UNFAIR, ("no",))
        check_refused(self, Unfair, carried, HOUSE, UNFAIR + ((on(("a",), ("b",) + ("not",) * 38), (0, 1)),), ("a",))

    def test_then_as_narrowed(self):
        fair = ((ON_A, (1, 3)), (on(("a",), ("b",) + ("not",) * 38), (0, 1)))
        check_refused(self, NoWorld, carried, HOUSE, fair, ("no",))
        check_refused(self, NoWorld, carried, HOUSE, fair, ("a", "a", "not", "and"))
        check_refused(self, NoWorld, carried, HOUSE, (), ("no",))
        check_refused(self, NoWorld, carried, ("ab", (("a",),)), fair, ("a", "not"))
        check_refused(self, NoWorld, carried, EIGHT, fair, ("no",))
        check_refused(self, TooMany, carried, EIGHT, fair, ("a",))
        check_refused(self, TooMany, carried, EIGHT, (), ("yes",))
        seven = ("ab", (("yes",),) * 7)
        self.check(seven, fair[:1], ("b",))
        check_refused(self, TooLong, carried, seven, fair, ("a",))

    def test_a_given_that_would_be_too_long(self):
        # The given, the saying and one word more: 40 words are not too many.
        for given, saying in ((1, 38), (1, 39), (1, 40), (38, 1), (39, 1), (40, 1), (19, 20), (20, 20), (20, 19)):
            bids = ((on(("a",), always(given)), (1, 3)),)
            if given + saying + 1 > 40:
                check_refused(self, TooLong, carried, HOUSE, bids, always(saying))
            else:
                self.check(HOUSE, bids, always(saying))
        short = (ON_A, (1, 3))
        longest = (on(("a",), always(39)), (0, 1))
        check_refused(self, TooLong, carried, HOUSE, (short, longest), ("b",))
        check_refused(self, TooLong, carried, HOUSE, (longest, short), ("b",))

    def test_a_bid_that_goes_may_be_as_long_as_it_is(self):
        longest = on(("a",), ("b",) + ("not",) * 38)
        self.assertEqual(self.check(HOUSE, ((longest, (1, 3)), (ON_A, (1, 5))), ("b", "not")), ((ON_A, (0, 1)),))
        check_refused(self, TooLong, carried, HOUSE, ((longest, (1, 3)), (ON_A, (1, 5))), ("b",))

    def test_a_bottom_of_three_hundred_figures(self):
        # 10 ** 300 - 1 is the greatest of three hundred figures, and a product of these two.
        one, other = 10 ** 150 + 1, 10 ** 150 - 1
        rest = next(k for k in range(other + 1, other + 1000) if gcd(k, one * other) == 1)
        later = self.check(HOUSE, by_part(1, one, other, rest), ("b",))
        self.assertEqual(later[0][1], (rest, MOST - 1))
        rest = next(k for k in range(10 ** 150 + 2, 10 ** 150 + 1000) if gcd(k, 10) == 1)
        check_refused(self, TooLong, carried, HOUSE, by_part(1, 10 ** 150, 10 ** 150, rest), ("b",))
        self.check(HOUSE, by_part(1, 10 ** 150, 10 ** 150, rest), ("b", "not"))
        self.check(HOUSE, by_part(1, 10 ** 150, 10 ** 149, rest), ("b",))

    def test_a_top_of_three_hundred_figures(self):
        great = (((9 * 10 ** 299, 1), ("a", "b", "and")),) * 2
        sold = (turned(ON_B), (-1, 10))
        bids = (((great, ("yes",)), (10 ** 299 - 1, 1)), sold)
        self.assertEqual(self.check(HOUSE, bids, ("b",))[0][1], (MOST - 10, 1))
        check_refused(self, TooLong, carried, HOUSE, (((great, ("yes",)), (10 ** 299, 1)), sold), ("b",))

    def test_a_top_below_nothing(self):
        # Nothing is said of b: the price falls to the least that is paid.
        for part, refused in ((10 ** 299 * 5, True), (10 ** 299 * 5 - 1, False)):
            bids = (((((-part, 1), ("a",)),) * 2, ("yes",)), (-1, 1)),
            if refused:
                check_refused(self, TooLong, carried, HOUSE, bids, ("b",))
            else:
                self.assertEqual(self.check(HOUSE, bids, ("b",))[0][1], (2 - MOST, 1))
        bids = ((((((1 - MOST, 1), ("a",)),), ("yes",)), (-1, 1)),)
        self.assertEqual(self.check(HOUSE, bids, ("b",))[0][1], (1 - MOST, 1))

    def test_a_great_price_of_a_later_bid(self):
        bids = ((ON_A, (0, 1)),) + ((((((-5 * 10 ** 299, 1), ("a",)),) * 2, ("yes",)), (-1, 1)),)
        check_refused(self, TooLong, carried, HOUSE, bids, ("b",))
        check_refused(self, TooLong, carried, HOUSE, bids[::-1], ("b",))

    def test_asked_again(self):
        maker = Maker(92)
        calls = []
        for turn in range(8):
            house = maker.house(2, 4)
            calls.append((house, maker.borne(house, 3)[1], ("yes",)))
        calls += [(HOUSE, ((BOTH, (1, 4)), (ON_A, (1, 3))), saying) for saying in (("a",), ("b",), ("b", "not"))]
        check_steady(self, carried, calls)


if __name__ == "__main__":
    unittest.main()
