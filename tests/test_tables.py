"""Point 9: tables of bets."""

import unittest

from betstall.tables import alike, table_of

from tests.helpers import Maker, paid, pair_of, worlds

BET = ((((1, 1), ("a",)), ((-1, 2), ("a", "b", "and"))), ("a", "b", "or"))


class TestTableOf(unittest.TestCase):

    def test_without_rules(self):
        self.assertEqual(table_of(("ab", ()), BET), (None, (0, 1), (1, 1), (1, 2)))
        self.assertEqual(table_of(("ab", ()), ((), ("yes",))), ((0, 1),) * 4)
        self.assertEqual(table_of(("ab", ()), ((), ("no",))), (None,) * 4)

    def test_with_rules(self):
        self.assertEqual(table_of(("ab", (("b",),)), BET), ((0, 1), (1, 2)))
        self.assertEqual(table_of(("ab", (("b", "not"),)), BET), (None, (1, 1)))
        self.assertEqual(table_of(("ab", (("a", "b", "or", "not"),)), BET), (None,))

    def test_a_second_way(self):
        maker = Maker(20)
        for turn in range(60):
            house = maker.house(1, 5)
            bet = maker.bet(house[0])
            due = [paid(house[0], bet, world) for world in worlds(house)]
            told = table_of(house, bet)
            self.assertEqual(told, tuple(None if one is None else pair_of(one) for one in due))
            self.assertEqual(table_of(house, bet), told)


class TestAlike(unittest.TestCase):

    def test_written_otherwise(self):
        house = ("ab", ())
        other = ((((1, 2), ("yes",)), ((1, 2), ("b", "not")), ((-1, 2), ("a", "not"))), ("b", "a", "or"))
        self.assertIs(alike(house, BET, BET), True)
        self.assertIs(alike(house, BET, other), True)
        self.assertIs(alike(house, other, BET), True)

    def test_one_world_alone(self):
        house = ("ab", ())
        for at in ("01", "10", "11"):
            here = (("a",) if at[0] == "1" else ("a", "not")) + (("b",) if at[1] == "1" else ("b", "not")) + ("and",)
            more = (BET[0] + (((1, 7), here),), BET[1])
            self.assertIs(alike(house, BET, more), False)
            self.assertIs(alike(house, more, BET), False)
            self.assertIs(alike((house[0], (here + ("not",),)), BET, more), True)

    def test_called_off_is_not_zero(self):
        house = ("ab", ())
        always, sometimes = ((), ("yes",)), ((), ("a", "b", "or"))
        self.assertIs(alike(house, always, sometimes), False)
        self.assertIs(alike(("ab", (("a",),)), always, sometimes), True)

    def test_the_house_counts(self):
        one, other = ((((1, 1), ("a",)),), ("yes",)), ((((1, 1), ("b",)),), ("yes",))
        self.assertIs(alike(("ab", ()), one, other), False)
        self.assertIs(alike(("ab", (("a", "b", "same"),)), one, other), True)
        self.assertIs(alike(("ab", ()), one, other), False)

    def test_a_second_way(self):
        maker = Maker(21)
        for turn in range(120):
            house = maker.house(1, 2)
            one, other = maker.bet(house[0], 1), maker.bet(house[0], 1)
            due = [paid(house[0], one, world) == paid(house[0], other, world) for world in worlds(house)]
            self.assertIs(alike(house, one, other), all(due))


if __name__ == "__main__":
    unittest.main()
