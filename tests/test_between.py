"""Point 26, and 3 (g): going between two stalls."""

import unittest
from fractions import Fraction

from betstall.bets import turned
from betstall.between import between, right_between
from betstall.books import right_loss
from betstall.errors import TooMany
from betstall.fractions import turned_about
from betstall.judging import judged
from betstall.layers import right_layers

from tests.helpers import (GREAT, Maker, between_right, check_checker, check_refused, check_steady, layers_right,
                           losing, shifted, variants)

HOUSE = ("ab", ())
SIX = ("abcdef", ())


def on(saying, given=("yes",)):
    return ((((1, 1), saying),), given)


ON_A = on(("a",))
A_BY_B = on(("a",), ("b",))
# The one gives 1/2 for a; the other gives 2/3 for what pays unless a.
ONE = ((ON_A, (1, 2)),)
OTHER = ((on(("a", "not")), (2, 3)),)
BOTH = (((1, 1),), ((1, 1),))
# The one holds b for sure not to be, and gives 2/3 for a on b; the other sells that for 1/2.
DEEP_ONE = ((on(("b", "not")), (1, 1)), (A_BY_B, (2, 3)))
DEEP_OTHER = ((turned(A_BY_B), (-1, 2)),)


class TestRightBetween(unittest.TestCase):

    def check(self, thing, due, one=ONE, other=OTHER, house=HOUSE):
        self.assertIs(right_between(house, one, other, thing), due)
        self.assertIs(between_right(house, one, other, thing), due)

    def test_right_and_wrong(self):
        self.check(BOTH, True)
        self.check((((5, 7),), ((5, 7),)), True)
        self.check((((1, 1),), ((2, 1),)), False)
        self.check((((1, 1),), ((0, 1),)), False)
        self.check((((0, 1),), ((1, 1),)), False)

    def test_stakes_that_are_all_nothing(self):
        self.check((((0, 1),), ((0, 1),)), False)
        self.check(((), ()), False, (), ())
        self.check((((0, 1),), ()), False, ONE, ())

    def test_stakes_for_one_list_alone(self):
        unfair = ((ON_A, (2, 1)),)
        self.check((((1, 1),), ((0, 1),)), True, unfair, OTHER)
        self.check((((0, 1),), ((1, 1),)), True, ONE, unfair)
        self.check((((1, 1),), ()), True, unfair, ())
        self.check(((), ((1, 1),)), True, (), unfair)
        self.check((((1, 1),),), False, unfair, ())
        self.check(((1, 1),), False, unfair, ())

    def test_rows_exchanged(self):
        one = ONE + ((on(("b",)), (0, 1)),)
        thing = (((1, 1), (0, 1)), ((1, 1),))
        self.check(thing, True, one)
        self.check(thing[::-1], False, one)
        self.check(thing[::-1], True, OTHER, one)
        uneven = (((3, 1),), ((2, 1),))
        lists = (((ON_A, (1, 4)),), ((on(("a", "not")), (9, 10)),))
        self.check(uneven, False, *lists)
        self.check(uneven[::-1], True, *lists)
        self.check(uneven, True, *lists[::-1])

    def test_a_stake_moved_from_one_row_to_the_other(self):
        one = ONE * 2
        other = OTHER * 2
        self.check((((1, 1),) * 2, ((1, 1),) * 2), True, one, other)
        self.check((((1, 1),) * 3, ((1, 1),)), False, one, other)
        self.check((((1, 1),), ((1, 1),) * 3), False, one, other)
        self.check((((1, 1),) * 4, ()), False, one, other)
        self.check(((), ((1, 1),) * 4), False, one, other)
        # Here the lists are as long as the rows.
        self.check((((1, 1),) * 3, ((1, 1),)), True, ONE * 2 + OTHER, OTHER)

    def test_a_row_one_short_or_long(self):
        for thing in (((), ((1, 1),)), (((1, 1),), ()), (((1, 1),) * 2, ((1, 1),)), (((1, 1),), ((1, 1),) * 2),
                      (((1, 1),), ((1, 1),), ()), (((1, 1),),), ((1, 1), (1, 1))):
            self.check(thing, False)

    def test_what_is_no_stake(self):
        for wrong in ((-1, 1), (2, 2), (1, 0), (True, 1), (1, True), [1, 1], 1, None, "1", (), (1, 1, 1), (0, 2)):
            self.check(((wrong,), ((1, 1),)), False)
            self.check((((1, 1),), (wrong,)), False)
        for thing in (list(BOTH), (list(BOTH[0]), BOTH[1]), (BOTH[0], list(BOTH[1])), {0: BOTH[0], 1: BOTH[1]}):
            self.check(thing, False)

    def test_just_nothing_and_a_trifle_less(self):
        other = ((on(("a", "not")), (1, 2)),)
        self.check(BOTH, False, ONE, other)
        self.check(BOTH, True, ONE, ((on(("a", "not")), shifted((1, 2), Fraction(1, GREAT))),))

    def test_more_than_twelve_together(self):
        for many, others in ((7, 6), (12, 12), (1, 12), (12, 1)):
            thing = (((1, many),) * many, ((1, others),) * others)
            self.check(thing, True, ONE * many, OTHER * others)
            self.check((thing[0], thing[1][1:] + ((9, 1),)), False, ONE * many, OTHER * others)

    def test_anything(self):
        maker = Maker(120)
        cases = [(HOUSE, ONE, OTHER, BOTH), (HOUSE, ((ON_A, (2, 1)),), (), (((1, 1),), ())),
                 (HOUSE, DEEP_ONE, DEEP_OTHER, between(HOUSE, DEEP_ONE, DEEP_OTHER)[1]),
                 (("ab", (("a",),)), (), ((A_BY_B, (2, 1)),), ((), ((1, 1),)))]
        for house, one, other, thing in cases + cases[:1]:
            self.check(thing, True, one, other, house)
            others = variants(thing)
            others += [(maker.stakes(len(one)), maker.stakes(len(other))) for turn in range(20)]
            check_checker(self, lambda given: right_between(house, one, other, given),
                          lambda given: between_right(house, one, other, given), others)
        check_checker(self, lambda given: right_between(HOUSE, (), (), given), lambda given: False, variants(((), ())))


class TestBetween(unittest.TestCase):

    def check(self, house, one, other):
        told = between(house, one, other)
        self.assertEqual((type(told), len(told)), (tuple, 2))
        kind, what = told
        self.assertEqual(kind == "fair", judged(house, one + other)[0] == "fair")
        if kind == "fair":
            self.assertIs(right_layers(house, one + other, what), True)
            self.assertTrue(layers_right(house, one + other, what))
        else:
            self.assertEqual(kind, "gain")
            self.assertIs(right_between(house, one, other, what), True)
            self.assertTrue(between_right(house, one, other, what))
        return kind

    def test_fair_together(self):
        self.assertEqual(self.check(HOUSE, ONE, ((on(("a", "not")), (1, 2)),)), "fair")
        self.assertEqual(self.check(HOUSE, ONE, ()), "fair")
        self.assertEqual(self.check(HOUSE, (), OTHER), "fair")
        self.assertEqual(between(HOUSE, (), ()), ("fair", ()))
        self.assertEqual(self.check(HOUSE, ONE, ONE), "fair")

    def test_each_fair_but_not_together(self):
        for one, other in ((ONE, OTHER), (OTHER, ONE), (DEEP_ONE, DEEP_OTHER), (DEEP_OTHER, DEEP_ONE)):
            self.assertEqual(judged(HOUSE, one)[0], "fair")
            self.assertEqual(judged(HOUSE, other)[0], "fair")
            self.assertEqual(self.check(HOUSE, one, other), "gain")
            mine, theirs = between(HOUSE, one, other)[1]
            self.assertFalse(right_loss(HOUSE, one, mine))
            self.assertFalse(right_loss(HOUSE, other, theirs))

    def test_one_unfair(self):
        unfair = ((ON_A, (2, 1)),)
        self.assertEqual(self.check(HOUSE, unfair, OTHER), "gain")
        self.assertEqual(self.check(HOUSE, ONE, unfair), "gain")
        self.assertEqual(self.check(HOUSE, unfair, ()), "gain")
        self.assertEqual(self.check(HOUSE, (), unfair), "gain")
        self.assertEqual(self.check(HOUSE, unfair, unfair), "gain")

    def test_twelve_and_thirteen(self):
        bid = (ON_A, (0, 1))
        for many in range(13):
            self.assertEqual(self.check(HOUSE, (bid,) * many, (bid,) * (12 - many)), "fair")
            self.assertEqual(self.check(HOUSE, (ONE * 12)[:many], (OTHER * 12)[many:]),
                             "gain" if 0 < many < 12 else "fair")
        for many in range(1, 13):
            for row in ((bid,), ONE, ((ON_A, (2, 1)),)):
                check_refused(self, TooMany, between, HOUSE, row * many, row * (13 - many))
        check_refused(self, TooMany, between, HOUSE, ONE * 12, OTHER * 12)
        check_refused(self, TooMany, between, HOUSE, ONE * 12, OTHER * 2)

    def test_whatever_lists(self):
        maker = Maker(121)
        seen = []
        for turn in range(120):
            house = maker.house(2, 5)
            one = maker.borne(house, maker.dice.randint(1, 4))[1]
            other = maker.borne(house, maker.dice.randint(0, 3))[1]
            if turn % 3 == 0:
                # The other sells for less what the one gives more for.
                bet, price = one[0]
                other += ((turned(bet), shifted(turned_about(price), Fraction(1, 9))),)
            elif turn % 3 == 1:
                layers, bids = maker.borne(house, 6)
                one, other = bids[:4], bids[4:]
            kind = self.check(house, one, other)
            seen.append(kind)
            self.assertEqual(self.check(house, other, one), kind)
            if kind == "gain":
                mine, theirs = between(house, one, other)[1]
                for row, stakes in ((one, mine), (other, theirs)):
                    if judged(house, row)[0] == "fair":
                        self.assertFalse(losing(house, row, stakes))
            if turn % 3 == 1:
                self.assertEqual(kind, "fair")
        self.assertGreater(seen.count("fair"), 40)
        self.assertGreater(seen.count("gain"), 30)

    def test_six_letters_and_twelve_bids(self):
        maker = Maker(122)
        bids = maker.borne(SIX, 12)[1]
        self.assertEqual(self.check(SIX, bids[:5], bids[5:]), "fair")
        bet, price = bids[0]
        less = ((turned(bet), shifted(turned_about(price), Fraction(1, 2))),)
        self.assertEqual(self.check(SIX, bids[:6], bids[6:11] + less), "gain")

    def test_asked_again(self):
        calls = [(HOUSE, ONE, OTHER), (HOUSE, OTHER, ONE), (HOUSE, ONE, ()), (HOUSE, DEEP_ONE, DEEP_OTHER),
                 (("ab", (("a", "b", "or"),)), DEEP_ONE, ONE)]
        check_steady(self, between, calls)
        check_steady(self, right_between, [call + (BOTH,) for call in calls])


if __name__ == "__main__":
    unittest.main()
