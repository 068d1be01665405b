"""Point 15: layers."""

import unittest
from fractions import Fraction

from betstall.books import right_loss
from betstall.layers import layer_of, mean_in, right_layers

from tests.helpers import GREAT, Maker, check_checker, layers_right, mean, pair_of, variants, weight

HOUSE = ("ab", ())
FIRST = ((1, 2), (1, 2), (0, 1), (0, 1))
THEN = ((0, 1), (0, 1), (1, 3), (2, 3))
LAST = ((1, 4),) * 4
ON_B_BY_A = ((((1, 1), ("b",)),), ("a",))
ON_B = ((((1, 1), ("b",)),), ("yes",))


class TestLayerOf(unittest.TestCase):

    def test_the_first_a_later_one_none(self):
        self.assertEqual(layer_of(HOUSE, (FIRST, THEN, LAST), ("a", "not")), 0)
        self.assertEqual(layer_of(HOUSE, (FIRST, THEN, LAST), ("b",)), 0)
        self.assertEqual(layer_of(HOUSE, (FIRST, THEN, LAST), ("a",)), 1)
        self.assertEqual(layer_of(HOUSE, (FIRST, FIRST, LAST), ("a",)), 2)
        self.assertIsNone(layer_of(HOUSE, (FIRST, FIRST), ("a",)))
        self.assertIsNone(layer_of(HOUSE, (FIRST, THEN, LAST), ("no",)))
        self.assertIsNone(layer_of(HOUSE, (), ("yes",)))
        self.assertEqual(layer_of(HOUSE, (FIRST,) * 39 + (THEN,), ("a",)), 39)

    def test_a_second_way(self):
        maker = Maker(30)
        for turn in range(80):
            house = maker.house()
            layers, saying = maker.layers(house, maker.dice.randint(0, 4)), maker.saying(house[0])
            heavy = [at for at, layer in enumerate(layers) if weight(house, layer, saying) > 0]
            told = layer_of(house, layers, saying)
            self.assertEqual(told, heavy[0] if heavy else None)
            self.assertNotIsInstance(told, bool)


class TestMeanIn(unittest.TestCase):

    def test_a_later_layer(self):
        self.assertEqual(mean_in(HOUSE, (FIRST, THEN, LAST), ON_B_BY_A), (2, 3))
        self.assertEqual(mean_in(HOUSE, (FIRST, LAST, THEN), ON_B_BY_A), (1, 2))
        self.assertEqual(mean_in(HOUSE, (FIRST, THEN), ON_B), (1, 2))
        self.assertEqual(mean_in(HOUSE, (THEN, FIRST), ON_B), (2, 3))
        self.assertEqual(mean_in(HOUSE, (FIRST, THEN), ((), ("a",))), (0, 1))

    def test_none(self):
        self.assertIsNone(mean_in(HOUSE, (), ON_B))
        self.assertIsNone(mean_in(HOUSE, (FIRST, FIRST), ON_B_BY_A))
        self.assertIsNone(mean_in(HOUSE, (FIRST, THEN), ((), ("no",))))

    def test_a_second_way(self):
        maker = Maker(31)
        for turn in range(80):
            house = maker.house()
            layers, bet = maker.layers(house, maker.dice.randint(0, 4)), maker.bet(house[0])
            heavy = [layer for layer in layers if weight(house, layer, bet[1]) > 0]
            self.assertEqual(mean_in(house, layers, bet), pair_of(mean(house, heavy[0], bet)) if heavy else None)


class TestRightLayers(unittest.TestCase):

    def test_just_as_great_and_a_bit_less(self):
        near = pair_of(Fraction(2, 3) + Fraction(1, GREAT))
        for price, due in (((2, 3), True), ((0, 1), True), ((-5, 1), True), (near, False), ((1, 1), False)):
            self.assertIs(right_layers(HOUSE, ((ON_B_BY_A, price),), (FIRST, THEN)), due)
            self.assertIs(right_layers(HOUSE, ((ON_B, (1, 2)), (ON_B_BY_A, price)), (FIRST, THEN)), due)
            self.assertIs(right_layers(HOUSE, ((ON_B_BY_A, price), (ON_B, (1, 2))), (FIRST, THEN)), due)

    def test_the_order_counts(self):
        bids = ((ON_B_BY_A, (2, 3)), (ON_B, (1, 2)))
        self.assertIs(right_layers(HOUSE, bids, (FIRST, THEN)), True)
        self.assertIs(right_layers(HOUSE, bids, (FIRST, LAST, THEN)), False)
        self.assertIs(right_layers(HOUSE, bids, (FIRST,)), False)
        self.assertIs(right_layers(HOUSE, ((ON_B, (2, 3)),), (FIRST, THEN)), False)
        self.assertIs(right_layers(HOUSE, ((ON_B, (2, 3)),), (THEN, FIRST)), True)

    def test_no_bids(self):
        for layers in ((), (FIRST,), (FIRST, THEN, LAST), (LAST,) * 40):
            self.assertIs(right_layers(HOUSE, (), layers), True)
        for thing in ((LAST,) * 41, [FIRST], [], FIRST, (FIRST[:3],), (FIRST, ()), None, True, "", {}):
            self.assertIs(right_layers(HOUSE, (), thing), False)

    def test_no_layers(self):
        self.assertIs(right_layers(HOUSE, ((ON_B, (-9, 1)),), ()), False)

    def test_forty_and_one_more(self):
        bids = ((ON_B_BY_A, (2, 3)),)
        self.assertIs(right_layers(HOUSE, bids, (FIRST,) * 39 + (THEN,)), True)
        self.assertIs(right_layers(HOUSE, bids, (FIRST,) * 40 + (THEN,)), False)
        self.assertIs(right_layers(HOUSE, bids, (THEN,) + (FIRST,) * 40), False)

    def test_a_layer_that_is_none_behind_others(self):
        bids = ((ON_B, (1, 2)),)
        for thing in (THEN[:3], THEN + ((0, 1),), list(THEN), ((1, 2),) * 4, ((0, 1),) * 4,
                      ((2, 1), (-1, 1), (0, 1), (0, 1)), None):
            self.assertIs(right_layers(HOUSE, bids, (FIRST, thing)), False)

    def test_the_house_counts(self):
        bids = ((ON_B, (1, 2)),)
        self.assertIs(right_layers(HOUSE, bids, (FIRST,)), True)
        self.assertIs(right_layers(("ab", (("b",),)), bids, (FIRST,)), False)
        self.assertIs(right_layers(("ab", (("b",),)), bids, (FIRST[:2],)), True)
        self.assertIs(right_layers(HOUSE, bids, (FIRST,)), True)

    def test_anything(self):
        maker = Maker(32)
        cases = [(HOUSE, (), (FIRST, THEN)), (HOUSE, ((ON_B_BY_A, (2, 3)), (ON_B, (1, 2))), (FIRST, THEN)),
                 (("a", ()), ((((((1, 1), ("a",)),), ("yes",)), (1, 2)),), (((1, 2), (1, 2)),))]
        house = maker.house()
        cases.append((house, maker.bids(house, 1), maker.layers(house, 1)))
        for house, bids, layers in cases + cases[:2]:
            others = variants(layers) + [maker.layers(house, maker.dice.randint(0, 3)) for turn in range(20)]
            check_checker(self, lambda thing: right_layers(house, bids, thing),
                          lambda thing: layers_right(house, bids, thing), others)

    def test_where_layers_bear_no_stakes_lose(self):
        maker = Maker(33)
        borne = 0
        for turn in range(300):
            house = maker.house(1, 3)
            bids, layers = maker.bids(house, 2), maker.layers(house, 3)
            self.assertIs(right_layers(house, bids, layers), layers_right(house, bids, layers))
            if right_layers(house, bids, layers):
                borne += 1
                self.assertIs(right_loss(house, bids, maker.stakes(2)), False)
        self.assertGreater(borne, 20)


if __name__ == "__main__":
    unittest.main()
