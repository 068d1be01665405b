"""Points 5, 6 and 7: sayings."""

import unittest

from betstall.errors import TooLong
from betstall.sayings import both, either, holds, is_saying, not_so, set_to

from tests.helpers import Maker, check_checker, right_saying, truth, variants, worlds


class TestIsSaying(unittest.TestCase):

    def test_each_word(self):
        for saying in (("a",), ("b",), ("yes",), ("no",), ("a", "not"), ("a", "b", "and"), ("a", "b", "or"),
                       ("a", "b", "same"), ("a", "b", "not", "and"), ("yes", "no", "or", "not", "a", "same")):
            self.assertIs(is_saying("ab", saying), True)

    def test_a_heap_too_small(self):
        for saying in (("not",), ("and",), ("a", "and"), ("a", "or"), ("a", "same"), ("not", "a"),
                       ("a", "and", "b"), ("and", "a", "b"), ("a", "b", "and", "and", "c", "c"),
                       ("a", "or", "b", "c", "and")):
            self.assertIs(is_saying("abc", saying), False)

    def test_more_than_one_thing_or_none_in_the_end(self):
        for saying in (("a", "b"), ("a", "b", "c", "and"), ("yes", "no"), ("a", "b", "not"), ()):
            self.assertIs(is_saying("abc", saying), False)

    def test_lengths(self):
        for many in (0, 1, 38, 39):
            self.assertIs(is_saying("a", ("a",) + ("not",) * many), True)
        for many in (40, 41, 100):
            self.assertIs(is_saying("a", ("a",) + ("not",) * many), False)
        long = ("a",) * 20 + ("and",) * 19
        self.assertIs(is_saying("a", long), True)
        self.assertIs(is_saying("a", long + ("not",)), True)
        self.assertIs(is_saying("a", ("b",) + long + ("and",)), False)
        self.assertIs(is_saying("a", ("a",) + long + ("or",)), False)

    def test_words_that_are_none(self):
        for word in ("c", "A", "ab", "", "ba", "Yes", "xor", "nor", " a", "a ", "1", None, True, 1, 0, ("a",), [], {}):
            self.assertIs(is_saying("ab", (word,)), False)
            self.assertIs(is_saying("ab", ("a", word, "and")), False)
        self.assertIs(is_saying("abcdef", ("abc",)), False)
        self.assertIs(is_saying("no", ("n", "o", "no", "and", "or")), True)

    def test_rows_that_are_none(self):
        for thing in (["a"], "a", {"a": 1}, None, True, 1, (("a",),), [("a",)]):
            self.assertIs(is_saying("a", thing), False)

    def test_anything(self):
        maker = Maker(5)
        for letters in ("a", "ab", "mxz", "abcdef"):
            others = []
            for turn in range(3):
                others += variants(maker.saying(letters))
            check_checker(self, lambda thing: is_saying(letters, thing),
                          lambda thing: right_saying(letters, thing), others)


class TestHolds(unittest.TestCase):

    def test_each_word_at_every_world(self):
        for world in ("00", "01", "10", "11"):
            a, b = world[0] == "1", world[1] == "1"
            self.assertIs(holds("ab", ("a",), world), a)
            self.assertIs(holds("ab", ("b",), world), b)
            self.assertIs(holds("ab", ("yes",), world), True)
            self.assertIs(holds("ab", ("no",), world), False)
            self.assertIs(holds("ab", ("a", "not"), world), not a)
            self.assertIs(holds("ab", ("b", "not"), world), not b)
            self.assertIs(holds("ab", ("a", "b", "and"), world), a and b)
            self.assertIs(holds("ab", ("a", "b", "or"), world), a or b)
            self.assertIs(holds("ab", ("a", "b", "same"), world), a == b)
            self.assertIs(holds("ab", ("a", "b", "not", "and"), world), a and not b)
            self.assertIs(holds("ab", ("a", "not", "b", "and"), world), b and not a)
            self.assertIs(holds("ab", ("a", "no", "same"), world), not a)

    def test_letters_stand_at_their_places(self):
        for at, letter in enumerate("cfkmxz"):
            world = "0" * at + "1" + "0" * (5 - at)
            for other in "cfkmxz":
                self.assertIs(holds("cfkmxz", (other,), world), other == letter)

    def test_a_second_way(self):
        maker = Maker(6)
        for turn in range(150):
            letters = maker.letters(1, 6)
            saying = maker.saying(letters, maker.dice.choice((3, 9, 40)))
            for world in worlds((letters, ())):
                self.assertIs(holds(letters, saying, world), truth(letters, saying, world))

    def test_forty_words(self):
        saying = ("a",) + ("not",) * 39
        self.assertIs(holds("a", saying, "1"), False)
        self.assertIs(holds("a", saying, "0"), True)
        heap = ("a",) * 20 + ("and",) * 19 + ("not",)
        self.assertIs(holds("a", heap, "1"), False)


class TestSetTo(unittest.TestCase):

    def test_often_once_nowhere(self):
        saying = ("a", "b", "and", "a", "not", "or", "a", "same")
        self.assertEqual(set_to(saying, "a", True), ("yes", "b", "and", "yes", "not", "or", "yes", "same"))
        self.assertEqual(set_to(saying, "a", False), ("no", "b", "and", "no", "not", "or", "no", "same"))
        self.assertEqual(set_to(saying, "b", True), ("a", "yes", "and", "a", "not", "or", "a", "same"))
        self.assertEqual(set_to(saying, "c", True), saying)
        self.assertEqual(set_to(saying, "c", False), saying)

    def test_words_with_the_letter_in_them_stay(self):
        saying = ("yes", "no", "or", "s", "same", "n", "and", "not")
        self.assertEqual(set_to(saying, "n", False), ("yes", "no", "or", "s", "same", "no", "and", "not"))
        self.assertEqual(set_to(saying, "s", True), ("yes", "no", "or", "yes", "same", "n", "and", "not"))

    def test_it_holds_where_the_letter_is_so(self):
        maker = Maker(7)
        for turn in range(60):
            saying = maker.saying("abc")
            for world in worlds(("abc", ())):
                for at, letter in enumerate("abc"):
                    told = set_to(saying, letter, world[at] == "1")
                    self.assertIsInstance(told, tuple)
                    self.assertNotIn(letter, told)
                    self.assertIs(holds("abc", told, world), truth("abc", saying, world))


class TestJoined(unittest.TestCase):

    def test_words(self):
        one, other = ("a", "b", "or"), ("c", "not")
        self.assertEqual(both(one, other), ("a", "b", "or", "c", "not", "and"))
        self.assertEqual(either(one, other), ("a", "b", "or", "c", "not", "or"))
        self.assertEqual(not_so(one), ("a", "b", "or", "not"))
        self.assertEqual((one, other), (("a", "b", "or"), ("c", "not")))

    def test_what_they_say(self):
        maker = Maker(8)
        for turn in range(40):
            one, other = maker.saying("abc"), maker.saying("abc")
            for world in worlds(("abc", ())):
                a, b = truth("abc", one, world), truth("abc", other, world)
                self.assertIs(holds("abc", both(one, other), world), a and b)
                self.assertIs(holds("abc", either(one, other), world), a or b)
                self.assertIs(holds("abc", not_so(one), world), not a)

    def test_just_forty_and_one_more(self):
        def so_long(many):
            return ("a",) + ("not",) * (many - 1)
        for one, other in ((1, 38), (38, 1), (19, 20), (20, 19)):
            for join, word in ((both, "and"), (either, "or")):
                told = join(so_long(one), so_long(other))
                self.assertEqual(told, so_long(one) + so_long(other) + (word,))
                self.assertEqual(len(told), 40)
                self.assertIs(is_saying("a", told), True)
        for one, other in ((1, 39), (39, 1), (20, 20), (40, 40), (40, 1)):
            for join in (both, either):
                with self.assertRaises(TooLong) as caught:
                    join(so_long(one), so_long(other))
                self.assertIs(type(caught.exception), TooLong)
        self.assertEqual(not_so(so_long(39)), so_long(40))
        with self.assertRaises(TooLong) as caught:
            not_so(so_long(40))
        self.assertIs(type(caught.exception), TooLong)


if __name__ == "__main__":
    unittest.main()
