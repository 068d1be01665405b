"""The board on which the most that wants come to is sought."""

import unittest
from fractions import Fraction
from unittest import mock

from betstall.simplex import Board, most_of

from tests.helpers import Maker


def product(row, amounts):
    return sum(entry * amount for entry, amount in zip(row, amounts))


class TestMostOf(unittest.TestCase):

    def check(self, rows, bounds, wants):
        board, column = most_of(rows, bounds, wants)
        if column is not None:
            ray = board.ray(column)
            self.assertTrue(all(amount >= 0 for amount in ray))
            self.assertGreater(product(wants, ray), 0)
            self.assertTrue(all(product(row, ray) <= 0 for row in rows))
            return None
        amounts = [Fraction(amount, board.scale) for amount in board.amounts()]
        prices = [Fraction(price, board.scale) for price in board.prices()]
        self.assertTrue(all(one >= 0 for one in amounts + prices))
        self.assertTrue(all(product(row, amounts) <= bound for row, bound in zip(rows, bounds)))
        for at, want in enumerate(wants):
            self.assertGreaterEqual(product([row[at] for row in rows], prices), want)
        self.assertEqual(product(wants, amounts), product(bounds, prices))
        return product(wants, amounts)

    def test_plain_ones(self):
        self.assertEqual(self.check([[1, 1], [1, 0]], [4, 3], [3, 2]), 11)
        self.assertEqual(self.check([[2, 1], [1, 3]], [5, 5], [1, 1]), 3)
        self.assertEqual(self.check([[3, 7]], [2], [1, 1]), Fraction(2, 3))

    def test_nothing_to_want(self):
        self.assertEqual(self.check([[1, 1]], [4], [-1, 0]), 0)
        self.assertEqual(self.check([], [], []), 0)
        self.assertEqual(self.check([[], []], [1, 0], []), 0)

    def test_without_end(self):
        self.assertIsNone(self.check([[1, -1]], [4], [1, 1]))
        self.assertIsNone(self.check([[-1, 1], [1, -1]], [0, 0], [1, 0]))
        self.assertIsNone(self.check([], [], [1]))

    def test_steps_that_gain_nothing(self):
        rows = [[25, -6000, -4, 900], [50, -9000, -2, 300], [0, 0, 1, 0]]
        self.assertEqual(self.check(rows, [0, 0, 1], [75, -15000, 2, -600]), 5)
        self.assertEqual(self.check([[1, -2], [-1, 1], [1, 0]], [0, 0, 0], [1, 1]), 0)

    def test_least_names_where_it_stalls(self):
        # By least names alone, in both choices, no round of steps that gain nothing can come again.
        board = Board([[1, 2, 1], [1, 2, 1], [1, 2, 1]], [0, 0, 0], [1, 5, 3])
        self.assertEqual(board.entering(False), 1)
        self.assertEqual(board.entering(True), 0)
        self.assertEqual(board.leaving(1), 0)
        board.resting, board.solved_for = [5, 4, 1], [3, 0, 2]
        self.assertEqual(board.entering(False), 1)
        self.assertEqual(board.entering(True), 2)
        self.assertEqual(board.leaving(1), 1)

    def test_a_stall_is_told(self):
        told = []

        class Watched(Board):
            def entering(self, stalled):
                told.append(("asked", stalled))
                return Board.entering(self, stalled)

            def exchange(self, at, column):
                told.append(("stalls", self.rows[at][-1] == 0))
                Board.exchange(self, at, column)

        with mock.patch("betstall.simplex.Board", Watched):
            rows = [[25, -6000, -4, 900], [50, -9000, -2, 300], [0, 0, 1, 0]]
            most_of(rows, [0, 0, 1], [75, -15000, 2, -600])
            most_of([[1, 1], [1, 0]], [4, 3], [3, 2])
        steps = [(one[1], other[1]) for one, other in zip(told, told[1:]) if one[0] == "stalls"]
        self.assertEqual({one == other for one, other in steps}, {True})
        self.assertEqual({one for one, other in steps}, {True, False})

    def test_many(self):
        maker = Maker(40)
        kinds = {True: 0, False: 0}
        for turn in range(300):
            high, wide = maker.dice.randint(1, 6), maker.dice.randint(1, 8)
            rows = [[maker.dice.randint(-3, 5) for at in range(wide)] for row in range(high)]
            bounds = [maker.dice.choice((0, 0, 1, 5)) for row in rows]
            told = self.check(rows, bounds, [maker.dice.randint(-2, 3) for at in range(wide)])
            kinds[told is None] += 1
        self.assertGreater(min(kinds.values()), 20)


if __name__ == "__main__":
    unittest.main()
