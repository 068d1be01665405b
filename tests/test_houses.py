"""Point 8: houses."""

import unittest

from betstall.errors import NoWorld, TooMany
from betstall.houses import is_house, is_sure, may_be, narrowed, worlds_of

from tests.helpers import Maker, check_checker, right_house, truth, variants, worlds


class TestIsHouse(unittest.TestCase):

    def test_letters(self):
        for letters in ("a", "z", "ab", "az", "abcdef", "uvwxyz"):
            self.assertIs(is_house((letters, ())), True)
        for letters in ("", "ba", "aa", "abb", "abcdefg", "A", "aB", "a1", "a b", "ab\n", " ", "{", "`a", None, 1, True,
                        ("a",), ["a"], ("a", "b"), {}, "a" * 20000):
            self.assertIs(is_house((letters, ())), False)

    def test_rules(self):
        self.assertIs(is_house(("ab", (("a",), ("b", "not")))), True)
        self.assertIs(is_house(("ab", (("a",), ("a", "not")))), False)
        self.assertIs(is_house(("ab", (("no",),))), False)
        self.assertIs(is_house(("ab", (("c",),))), False)
        self.assertIs(is_house(("ab", (("a", "b"),))), False)
        self.assertIs(is_house(("ab", (["a"],))), False)
        self.assertIs(is_house(("ab", [("a",)])), False)
        self.assertIs(is_house(("ab", ("a",))), False)
        self.assertIs(is_house(["ab", ()]), False)
        self.assertIs(is_house(("ab",)), False)
        self.assertIs(is_house(("ab", (), ())), False)

    def test_eight_and_nine_rules(self):
        self.assertIs(is_house(("ab", (("yes",),) * 8)), True)
        self.assertIs(is_house(("ab", (("yes",),) * 9)), False)
        self.assertIs(is_house(("ab", (("yes",),) * 7 + (("no",),))), False)

    def test_rules_of_forty_and_more_words(self):
        self.assertIs(is_house(("a", (("a",) + ("not",) * 39,))), True)
        self.assertIs(is_house(("a", (("a",) + ("not",) * 40,))), False)

    def test_anything(self):
        maker = Maker(9)
        others = []
        for turn in range(4):
            others += variants(maker.house())
        check_checker(self, is_house, right_house, others)


class TestWorlds(unittest.TestCase):

    def test_rising(self):
        self.assertEqual(worlds_of(("a", ())), ("0", "1"))
        self.assertEqual(worlds_of(("ab", ())), ("00", "01", "10", "11"))
        self.assertEqual(worlds_of(("ab", (("a",),))), ("10", "11"))
        self.assertEqual(worlds_of(("ab", (("b",),))), ("01", "11"))
        self.assertEqual(worlds_of(("xy", (("x", "y", "or"), ("x", "y", "and", "not")))), ("01", "10"))
        told = worlds_of(("abcdef", ()))
        self.assertEqual(len(told), 64)
        self.assertEqual(list(told), sorted(set(told)))
        self.assertIsInstance(told, tuple)

    def test_a_second_way(self):
        maker = Maker(10)
        for turn in range(60):
            house = maker.house(1, 6)
            told = worlds_of(house)
            self.assertEqual(told, tuple(worlds(house)))
            saying = maker.saying(house[0])
            truths = [truth(house[0], saying, world) for world in told]
            self.assertIs(may_be(house, saying), any(truths))
            self.assertIs(is_sure(house, saying), all(truths))
            self.assertEqual(worlds_of(house), told)


class TestMayBe(unittest.TestCase):

    def test_rules_count(self):
        house = ("ab", (("a",),))
        self.assertIs(may_be(house, ("a", "not")), False)
        self.assertIs(may_be(house, ("b",)), True)
        self.assertIs(may_be(house, ("b", "not")), True)
        self.assertIs(may_be(house, ("no",)), False)
        self.assertIs(may_be(house, ("yes",)), True)
        self.assertIs(is_sure(house, ("a",)), True)
        self.assertIs(is_sure(house, ("b",)), False)
        self.assertIs(is_sure(house, ("yes",)), True)
        self.assertIs(is_sure(house, ("no",)), False)
        self.assertIs(is_sure(house, ("a", "b", "or")), True)


class TestNarrowed(unittest.TestCase):

    def refused(self, error, house, saying):
        with self.assertRaises(error) as caught:
            narrowed(house, saying)
        self.assertIs(type(caught.exception), error)

    def test_put_last(self):
        house = ("ab", (("a", "b", "or"),))
        self.assertEqual(narrowed(house, ("b", "not")), ("ab", (("a", "b", "or"), ("b", "not"))))
        self.assertEqual(house, ("ab", (("a", "b", "or"),)))
        self.assertEqual(narrowed(("ab", ()), ("yes",)), ("ab", (("yes",),)))

    def test_no_world(self):
        self.refused(NoWorld, ("ab", ()), ("no",))
        self.refused(NoWorld, ("ab", (("a",),)), ("a", "not"))

    def test_eight_rules(self):
        seven, eight = ("ab", (("a",),) * 7), ("ab", (("a",),) * 8)
        self.assertEqual(narrowed(seven, ("b",)), ("ab", (("a",),) * 7 + (("b",),)))
        self.refused(TooMany, eight, ("b",))
        self.refused(TooMany, eight, ("a",))
        self.refused(NoWorld, seven, ("a", "not"))

    def test_no_world_ahead_of_too_many(self):
        self.refused(NoWorld, ("ab", (("a",),) * 8), ("a", "not"))

    def test_its_worlds(self):
        maker = Maker(11)
        for turn in range(40):
            house = maker.house()
            saying = maker.saying(house[0])
            left = [world for world in worlds(house) if truth(house[0], saying, world)]
            if left:
                told = narrowed(house, saying)
                self.assertEqual(told, (house[0], house[1] + (saying,)))
                self.assertEqual(list(worlds_of(told)), left)
            else:
                self.refused(NoWorld, house, saying)


if __name__ == "__main__":
    unittest.main()
