"""Point 22: what is to blame."""

import unittest
from fractions import Fraction

from betstall.bets import turned
from betstall.bids import both_ways
from betstall.books import right_loss
from betstall.causepaper import right_cause
from betstall.causes import cause_of
from betstall.errors import Fair
from betstall.fractions import turned_about
from betstall.judging import judged
from betstall.layers import right_layers

from tests.helpers import (GREAT, Maker, cause_right, check_checker, check_refused, check_steady, even, shifted,
                           variants, worlds)

HOUSE = ("ab", ())
SIX = ("abcdef", ())


def on(saying, given=("yes",)):
    return ((((1, 1), saying),), given)


ON_A = on(("a",))
NOT_A = on(("a", "not"))
ON_B = on(("b",))
A_BY_B = on(("a",), ("b",))
ALL_A = ((0, 1), (0, 1), (1, 2), (1, 2))
NO_A = ((1, 2), (1, 2), (0, 1), (0, 1))
# The second and the fourth are to blame: together they give 7/6 for what pays 1.
BIDS = ((ON_B, (1, 9)), (ON_A, (2, 3)), (A_BY_B, (1, 3)), (NOT_A, (1, 2)))
CAUSE = ((1, 3), ((1, 1), (1, 1)), ((NO_A,), (ALL_A,)))


def chain(depth, last):
    """Bids of 1/2 on each letter behind all ahead of it, and all of them together sold for so much."""
    bids = []
    given = ("yes",)
    for letter in "abcdef"[:depth]:
        bids.append((on((letter,), given), (1, 2)))
        given = (letter,) if given == ("yes",) else given + (letter, "and")
    return tuple(bids) + ((turned(on(given)), turned_about(last)),)


class TestRightCause(unittest.TestCase):

    def check(self, thing, due, bids=BIDS, house=HOUSE):
        self.assertIs(right_cause(house, bids, thing), due)
        self.assertIs(cause_right(house, bids, thing), due)

    def test_right_ones(self):
        self.check(CAUSE, True)
        self.check(((1, 3), ((6, 7), (6, 7)), ((NO_A, ALL_A), (ALL_A,) * 40)), True)
        self.check(cause_of(HOUSE, BIDS), True)

    def test_numbers(self):
        numbers, stakes, others = CAUSE
        for wrong in ((3, 1), (1, 1), (3, 3), (), (1,), (3,), (1, 4), (-1, 3), (1, -1), (0, 1), (1, 2, 3), (1, 3, 3),
                      (0, 3), [1, 3], (1, "3"), (1, None), (True, 3), (1, (3,)), None, 1, "13", (1, 3, 4), (-3, 3),
                      (1, GREAT)):
            self.check((wrong, stakes, others), False)
            self.check((wrong, ((1, 1),), others[:1]), False)
            self.check((wrong, stakes + ((0, 1),), others + ((ALL_A,),)), False)

    def test_numbers_that_do_not_rise(self):
        numbers, stakes, others = CAUSE
        self.check((numbers[::-1], stakes[::-1], others[::-1]), False)
        deep = chain(2, (1, 5))
        told = cause_of(HOUSE, deep)
        for order in ((0, 2, 1), (1, 0, 2), (2, 1, 0), (1, 2, 0), (2, 0, 1)):
            self.check(tuple(tuple(part[at] for at in order) for part in told), False, deep)
        self.check(told, True, deep)

    def test_truths_are_no_numbers(self):
        bids = ((NOT_A, (1, 2)), (ON_A, (2, 3)))
        others = ((ALL_A,), (NO_A,))
        self.check(((0, 1), ((1, 1), (1, 1)), others), True, bids)
        self.check(((False, 1), ((1, 1), (1, 1)), others), False, bids)
        self.check(((0, True), ((1, 1), (1, 1)), others), False, bids)
        self.check(((False, True), ((1, 1), (1, 1)), others), False, bids)

    def test_no_numbers_at_all(self):
        for stakes in ((), ((1, 1),)):
            for others in ((), ((),), ((ALL_A,),)):
                self.check(((), stakes, others), False)
                self.check(((), stakes, others), False, ())

    def test_stakes(self):
        numbers, stakes, others = CAUSE
        for wrong in (((1, 1),), ((1, 1),) * 3, ((0, 1), (1, 1), (0, 1), (1, 1)), ((0, 1), (0, 1)), ((1, 1), (0, 1)),
                      ((1, 1), (-1, 1)), ((2, 2), (1, 1)), ((1, 1), (2, 1)), ((5, 1), (1, 1)), (), None,
                      [(1, 1), (1, 1)]):
            self.check((numbers, wrong, others), False)

    def test_a_gain_of_just_nothing(self):
        bids = ((ON_A, (1, 2)), (NOT_A, (1, 2)))
        self.check(((0, 1), ((1, 1), (1, 1)), ((NO_A,), (ALL_A,))), False, bids)
        bids = ((ON_A, (1, 2)), (NOT_A, shifted((1, 2), Fraction(1, GREAT))))
        self.check(((0, 1), ((1, 1), (1, 1)), ((NO_A,), (ALL_A,))), True, bids)

    def test_others(self):
        numbers, stakes, others = CAUSE
        for wrong in (others[:1], others + (others[0],), (), others[::-1], ((NO_A,), (NO_A,)), ((ALL_A,), (ALL_A,)),
                      ((), (ALL_A,)), ((NO_A,), ()), ((NO_A,), ALL_A), ((NO_A,), [ALL_A]), [(NO_A,), (ALL_A,)],
                      ((NO_A,), None), ((NO_A,) * 41, (ALL_A,)), ((even(HOUSE),), (even(HOUSE),)), None):
            self.check((numbers, stakes, wrong), False)
        # Layers that bear the bid that should be left out, and not the other.
        self.check((numbers, stakes, ((ALL_A, NO_A), (ALL_A,))), False)

    def test_one_number(self):
        bids = ((ON_A, (2, 1)), (ON_B, (1, 2)))
        self.check(((0,), ((1, 1),), ((),)), True, bids)
        self.check(((0,), ((1, 5),), ((ALL_A,),)), True, bids)
        self.check(((1,), ((1, 1),), ((),)), False, bids)
        self.check(((0,), ((1, 1),), ()), False, bids)
        self.check(((0,), ((1, 1),), (((1, 1),),)), False, bids)
        self.check(((0, 1), ((1, 1), (0, 1)), ((ALL_A,), ())), False, bids)

    def test_more_than_need_be(self):
        # Unfair together, but unfair without one of them, too.
        bids = ((ON_A, (2, 3)), (NOT_A, (1, 2)), (NOT_A, (1, 2)))
        others = ((NO_A,), (ALL_A,), (ALL_A,))
        self.check(((0, 1, 2), ((2, 1), (1, 1), (1, 1)), others), False, bids)
        self.check(((0, 1), ((1, 1), (1, 1)), others[:2]), True, bids)
        self.check(((0, 2), ((1, 1), (1, 1)), others[:2]), True, bids)

    def test_rows(self):
        for thing in (list(CAUSE), CAUSE[:2], CAUSE + ((),), (), None, True, 3, "", {}, (CAUSE,), CAUSE[::-1]):
            self.check(thing, False)

    def test_fair_bids_have_none(self):
        bids = ((ON_A, (1, 2)), (NOT_A, (1, 2)), (ON_B, (0, 1)), (A_BY_B, (1, 3)))
        others = [CAUSE] + variants(CAUSE)[::9]
        check_checker(self, lambda thing: right_cause(HOUSE, bids, thing), lambda thing: False, others)
        check_checker(self, lambda thing: right_cause(HOUSE, (), thing), lambda thing: False, others)

    def test_another_house_another_list(self):
        self.check(CAUSE, True)
        self.check(CAUSE, False, BIDS[::-1])
        self.check(CAUSE, False, BIDS[:3])
        self.check(CAUSE, False, BIDS, ("ab", (("a", "b", "or"),)))
        self.check(CAUSE, True)

    def test_anything(self):
        deep = chain(2, (1, 5))
        cases = [(HOUSE, BIDS, CAUSE), (HOUSE, deep, cause_of(HOUSE, deep)),
                 (HOUSE, ((ON_A, (2, 1)),), ((0,), ((1, 1),), ((),)))]
        for house, bids, cause in cases + cases[:1]:
            self.assertTrue(right_cause(house, bids, cause))
            check_checker(self, lambda thing: right_cause(house, bids, thing),
                          lambda thing: cause_right(house, bids, thing), variants(cause))


class TestCauseOf(unittest.TestCase):

    def check(self, house, bids):
        """The numbers of the cause that is told, looked over."""
        told = cause_of(house, bids)
        self.assertIs(right_cause(house, bids, told), True)
        self.assertTrue(cause_right(house, bids, told))
        self.assertLessEqual(len(told[0]), len(worlds(house)))
        blamed = tuple(bids[number] for number in told[0])
        self.assertIs(right_loss(house, blamed, told[1]), True)
        for at, layers in enumerate(told[2]):
            self.assertIs(right_layers(house, blamed[:at] + blamed[at + 1:], layers), True)
        return told[0]

    def test_one_alone(self):
        fair = ((ON_A, (1, 3)), (ON_B, (1, 2)), (A_BY_B, (1, 5)))
        for place in range(4):
            bids = fair[:place] + ((on(("b",), ("a",)), (1001, 1000)),) + fair[place:]
            self.assertEqual(self.check(HOUSE, bids), (place,))
        self.assertEqual(self.check(HOUSE, ((ON_A, (2, 1)),)), (0,))

    def test_two(self):
        self.assertEqual(self.check(HOUSE, BIDS), (1, 3))
        self.assertEqual(self.check(HOUSE, BIDS[::-1]), (0, 2))
        self.assertIn(self.check(HOUSE, BIDS + BIDS[3:]), ((1, 3), (1, 4)))

    def test_a_chain_of_several(self):
        for depth in (1, 2, 3, 4, 5, 6):
            half = (1, 2 ** depth)
            bids = chain(depth, shifted(half, -Fraction(1, 1000)))
            self.assertEqual(self.check(SIX, bids), tuple(range(depth + 1)))
            self.assertEqual(judged(SIX, chain(depth, half))[0], "fair")
            check_refused(self, Fair, cause_of, SIX, chain(depth, half))

    def test_a_chain_with_fair_bids_among_it(self):
        maker = Maker(80)
        bids = chain(4, (1, 17))
        fair = ((on(("f",)), (1, 9)), (on(("e",), ("f",)), (1, 3)), (on(("e", "f", "or")), (0, 1)), (ON_A, (1, 2)))
        for turn in range(6):
            row = list(bids + fair[:3])
            maker.dice.shuffle(row)
            due = tuple(sorted(row.index(bid) for bid in bids))
            self.assertEqual(self.check(SIX, tuple(row)), due)
        numbers = self.check(SIX, fair[3:] + bids)
        self.assertIn(numbers, ((0, 2, 3, 4, 5), (1, 2, 3, 4, 5)))

    def test_behind_what_weighs_nothing(self):
        sure = (on(("b", "not")), (1, 1))
        bids = (sure, (ON_A, (1, 2)), (A_BY_B, (1, 2)), (on(("a", "not"), ("b",)), shifted((1, 2), Fraction(1, GREAT))))
        self.assertEqual(self.check(HOUSE, bids), (2, 3))
        self.assertEqual(self.check(HOUSE, (sure, (ON_A, (1, 2)), (ON_B, (1, GREAT)))), (0, 2))

    def test_never_more_than_worlds(self):
        maker = Maker(81)
        for turn in range(40):
            house = maker.house(1, 2)
            bids = maker.bids(house, 12)
            if judged(house, bids)[0] == "loss":
                self.check(house, bids)
        two = ("a", ())
        bids = tuple((on(("a",)), (2 + k, 20)) for k in range(6)) + tuple((NOT_A, (14 + k, 20)) for k in range(6))
        self.assertEqual(len(self.check(two, bids)), 2)
        self.assertEqual(len(self.check(("a", (("a",),)), bids)), 1)

    def test_whatever_list(self):
        maker = Maker(82)
        sizes = []
        for turn in range(120):
            house = maker.house(2, 5)
            bids = maker.borne(house, maker.dice.choice((2, 4, 8)), False)[1]
            row = list(bids)
            for again in range(2):
                bet, price = maker.dice.choice(bids)
                row.append((turned(bet), shifted(turned_about(price), Fraction(maker.dice.randint(-2, 1), 9))))
            maker.dice.shuffle(row)
            if judged(house, tuple(row))[0] == "loss":
                sizes.append(len(self.check(house, tuple(row))))
            else:
                check_refused(self, Fair, cause_of, house, tuple(row))
        self.assertGreater(len(sizes), 30)
        self.assertGreater(len(set(sizes)), 1)

    def test_six_letters_and_twelve_bids(self):
        bids = chain(6, (1, 65)) + chain(3, (1, 9)) + both_ways(on(("f",), ("e",)), (1, 2))[:1]
        self.assertEqual(len(bids), 12)
        self.check(SIX, bids)

    def test_fair(self):
        maker = Maker(83)
        check_refused(self, Fair, cause_of, HOUSE, ())
        check_refused(self, Fair, cause_of, HOUSE, BIDS[:3])
        check_refused(self, Fair, cause_of, HOUSE, ((ON_A, (1, 1)), (NOT_A, (0, 1))))
        for turn in range(10):
            house = maker.house()
            check_refused(self, Fair, cause_of, house, maker.borne(house, 4)[1])

    def test_asked_again(self):
        calls = [(HOUSE, BIDS), (SIX, chain(4, (1, 17))), (HOUSE, BIDS[::-1]), (("a", ()), ((ON_A, (2, 1)),)),
                 (("ab", (("a", "not"),)), BIDS)]
        check_steady(self, cause_of, calls)


if __name__ == "__main__":
    unittest.main()
