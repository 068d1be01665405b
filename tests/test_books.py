"""Points 12 and 13: books of stakes."""

import unittest

from betstall.books import gains_of, right_loss

from tests.helpers import GREAT, Maker, check_checker, gained, losing, pair_of, variants

HOUSE = ("ab", ())
ON_A = ((((1, 1), ("a",)),), ("b",))
ON_B = ((((1, 1), ("b",)),), ("yes",))
NOT_A = ((((1, 1), ("a", "not")),), ("b",))


class TestGainsOf(unittest.TestCase):

    def test_where_it_lives(self):
        bids = ((ON_A, (1, 3)), (ON_B, (1, 2)))
        self.assertEqual(gains_of(HOUSE, bids, ((3, 1), (0, 1))), (None, (-1, 1), None, (2, 1)))
        self.assertEqual(gains_of(HOUSE, bids, ((0, 1), (1, 1))), ((-1, 2), (1, 2), (-1, 2), (1, 2)))
        self.assertEqual(gains_of(HOUSE, bids, ((3, 1), (2, 1))), ((-1, 1), (0, 1), (-1, 1), (3, 1)))

    def test_stakes_of_zero_alone(self):
        bids = ((ON_A, (1, 3)), (ON_B, (1, 2)))
        self.assertEqual(gains_of(HOUSE, bids, ((0, 1), (0, 1))), (None,) * 4)
        self.assertEqual(gains_of(HOUSE, (), ()), (None,) * 4)
        self.assertEqual(gains_of(("ab", (("a",),)), (), ()), (None,) * 2)

    def test_a_gain_of_zero_is_one(self):
        self.assertEqual(gains_of(HOUSE, ((ON_A, (0, 1)),), ((1, 1),)), (None, (0, 1), None, (1, 1)))
        self.assertEqual(gains_of(HOUSE, ((((), ("a",)), (0, 1)),), ((5, 7),)), (None, None, (0, 1), (0, 1)))

    def test_rules(self):
        bids = ((ON_A, (1, 3)),)
        self.assertEqual(gains_of(("ab", (("b",),)), bids, ((3, 1),)), ((-1, 1), (2, 1)))
        self.assertEqual(gains_of(("ab", (("a", "b", "same"),)), bids, ((3, 1),)), (None, (2, 1)))

    def test_a_second_way(self):
        maker = Maker(24)
        for turn in range(80):
            house = maker.house()
            many = maker.dice.choice((0, 1, 2, 3, 12))
            bids, stakes = maker.bids(house, many), maker.stakes(many)
            due = tuple(None if gain is None else pair_of(gain) for gain in gained(house, bids, stakes))
            self.assertEqual(gains_of(house, bids, stakes), due)
            self.assertEqual(gains_of(house, bids, stakes), due)


class TestRightLoss(unittest.TestCase):

    def test_a_sure_loss(self):
        bids = ((ON_A, (2, 3)), (NOT_A, (1, 2)))
        self.assertIs(right_loss(HOUSE, bids, ((1, 1), (1, 1))), True)
        self.assertIs(right_loss(HOUSE, bids, ((1, 1), (0, 1))), False)
        self.assertIs(right_loss(HOUSE, bids, ((0, 1), (1, 1))), False)
        self.assertIs(right_loss(HOUSE, bids, ((0, 1), (0, 1))), False)

    def test_a_gain_of_just_zero(self):
        for price, due in (((1, 2), False), ((GREAT + 1, 2 * GREAT + 1), True)):
            self.assertIs(right_loss(HOUSE, ((ON_A, (1, 2)), (NOT_A, price)), ((1, 1), (1, 1))), due)
        self.assertIs(right_loss(HOUSE, ((((), ("a",)), (0, 1)),), ((1, 1),)), False)
        self.assertIs(right_loss(HOUSE, ((ON_A, (1, 1)),), ((1, 1),)), False)
        self.assertIs(right_loss(HOUSE, ((ON_A, (GREAT + 1, GREAT)),), ((1, 1),)), True)

    def test_called_off_at_some_worlds(self):
        self.assertIs(right_loss(HOUSE, ((((), ("a", "b", "and")), (1, 9)),), ((1, 1),)), True)
        self.assertIs(right_loss(HOUSE, ((((), ("a", "b", "and")), (-1, 9)),), ((1, 1),)), False)

    def test_the_house_counts(self):
        bids = ((ON_A, (1, 2)),)
        self.assertIs(right_loss(HOUSE, bids, ((1, 1),)), False)
        self.assertIs(right_loss(("ab", (("a", "not"),)), bids, ((1, 1),)), True)
        self.assertIs(right_loss(HOUSE, bids, ((1, 1),)), False)

    def test_stakes_that_are_none(self):
        bids = ((ON_A, (2, 1)), (NOT_A, (2, 1)))
        self.assertIs(right_loss(HOUSE, bids, ((1, 1), (1, 1))), True)
        for thing in (((1, 1),), ((1, 1),) * 3, ((1, 1), (-1, 9)), ((1, 1), (2, 2)), ((1, 1), (1, 0)), [(1, 1), (1, 1)],
                      ((1, 1), [1, 1]), ((1, 1), 1), ((1, 1), None), ((1, 1), (True, 1)), ((1, 1), (0, 2)), (), None,
                      ((1, 1), (1, 1), ()), True, 0, "", {}):
            self.assertIs(right_loss(HOUSE, bids, thing), False)

    def test_no_bids(self):
        self.assertIs(right_loss(HOUSE, (), ()), False)
        self.assertIs(right_loss(HOUSE, (), ((1, 1),)), False)

    def test_more_than_twelve(self):
        bids = ((ON_A, (2, 1)),) * 14
        self.assertIs(right_loss(HOUSE, bids, ((1, 3),) * 14), True)

    def test_great_figures(self):
        bids = ((ON_A, (2, 3)), (NOT_A, (1, 2)))
        self.assertIs(right_loss(HOUSE, bids, ((GREAT, 10 ** 399), (GREAT + 2, 10 ** 399))), True)

    def test_anything(self):
        maker = Maker(25)
        cases = [(HOUSE, ()), (HOUSE, ((ON_A, (2, 3)), (NOT_A, (1, 2)))), (("ab", (("a", "not"),)), ((ON_A, (1, 2)),))]
        cases += [(house, maker.bids(house, 2)) for house in (maker.house(), maker.house())]
        for house, bids in cases + cases[:2]:
            others = variants(((1, 1),) * len(bids)) + variants(((1, 2),) * len(bids))
            others += [maker.stakes(len(bids)) for turn in range(20)]
            check_checker(self, lambda thing: right_loss(house, bids, thing),
                          lambda thing: losing(house, bids, thing), others)


if __name__ == "__main__":
    unittest.main()
