"""Points 9 (but for tables) and 10: bets."""

import unittest

from betstall.bets import called_off, is_bet, pays, so_often, together, turned, with_more
from betstall.errors import NotAlike, TooLong

from tests.helpers import GREAT, Maker, check_checker, paid, pair_of, right_bet, variants, worlds, worth

BET = ((((1, 1), ("a",)), ((-1, 2), ("a", "b", "and"))), ("a", "b", "or"))


def of_terms(many, given=("yes",)):
    return ((((1, 3), ("a",)),) * many, given)


class TestIsBet(unittest.TestCase):

    def test_terms(self):
        for many in (0, 1, 8):
            self.assertIs(is_bet("ab", of_terms(many)), True)
        for many in (9, 10, 100):
            self.assertIs(is_bet("ab", of_terms(many)), False)
        self.assertIs(is_bet("ab", BET), True)

    def test_amounts(self):
        for amount in ((0, 1), (-7, 3), (GREAT, GREAT + 1)):
            self.assertIs(is_bet("ab", (((amount, ("a",)),), ("b",))), True)
        for amount in ((2, 4), (1, 0), (1, -1), (True, 1), [1, 2], 1, None, (1,), (1, 2, 3), "1"):
            self.assertIs(is_bet("ab", (((amount, ("a",)),), ("b",))), False)
            self.assertIs(is_bet("ab", ((((1, 1), ("a",)), (amount, ("a",))), ("b",))), False)

    def test_sayings(self):
        for saying in (("c",), (), ["a"], "a", None, ("a", "b"), ("a",) + ("not",) * 40, True):
            self.assertIs(is_bet("ab", ((), saying)), False)
            self.assertIs(is_bet("ab", ((((1, 1), saying),), ("a",))), False)
            self.assertIs(is_bet("ab", ((((1, 1), ("a",)), ((1, 1), saying)), ("a",))), False)
        self.assertIs(is_bet("ab", ((), ("no",))), True)

    def test_rows(self):
        self.assertIs(is_bet("ab", [(), ("a",)]), False)
        self.assertIs(is_bet("ab", ([], ("a",))), False)
        self.assertIs(is_bet("ab", ((),)), False)
        self.assertIs(is_bet("ab", ((), ("a",), ("a",))), False)
        self.assertIs(is_bet("ab", (([(1, 1), ("a",)],), ("a",))), False)
        self.assertIs(is_bet("ab", ((((1, 1), ("a",), ()),), ("a",))), False)
        self.assertIs(is_bet("ab", ((((1, 1),),), ("a",))), False)

    def test_anything(self):
        maker = Maker(12)
        for letters in ("a", "abc"):
            others = variants(BET)
            for turn in range(3):
                others += variants(maker.bet(letters))
            check_checker(self, lambda thing: is_bet(letters, thing),
                          lambda thing: right_bet(letters, thing), others)


class TestPays(unittest.TestCase):

    def test_where_it_lives_and_where_not(self):
        self.assertIsNone(pays("ab", BET, "00"))
        self.assertEqual(pays("ab", BET, "01"), (0, 1))
        self.assertEqual(pays("ab", BET, "10"), (1, 1))
        self.assertEqual(pays("ab", BET, "11"), (1, 2))

    def test_no_terms(self):
        self.assertEqual(pays("a", ((), ("a",)), "1"), (0, 1))
        self.assertIsNone(pays("a", ((), ("a",)), "0"))
        self.assertIsNone(pays("a", (of_terms(3)[0], ("no",)), "1"))

    def test_eight_terms(self):
        self.assertEqual(pays("a", of_terms(8), "1"), (8, 3))
        self.assertEqual(pays("a", of_terms(8), "0"), (0, 1))
        self.assertEqual(pays("a", ((((1, 2), ("a",)), ((-1, 2), ("yes",))), ("yes",)), "1"), (0, 1))

    def test_a_second_way(self):
        maker = Maker(13)
        for turn in range(80):
            letters = maker.letters()
            bet = maker.bet(letters, 8)
            for world in worlds((letters, ())):
                due = paid(letters, bet, world)
                self.assertEqual(pays(letters, bet, world), None if due is None else pair_of(due))


class TestOthers(unittest.TestCase):

    def refused(self, error, asked, *handed):
        with self.assertRaises(error) as caught:
            asked(*handed)
        self.assertIs(type(caught.exception), error)

    def test_turned(self):
        self.assertEqual(turned(BET), ((((-1, 1), ("a",)), ((1, 2), ("a", "b", "and"))), ("a", "b", "or")))
        self.assertEqual(turned(turned(BET)), BET)
        self.assertEqual(turned(((), ("a",))), ((), ("a",)))
        self.assertEqual(turned(((((0, 1), ("a",)),), ("a",))), ((((0, 1), ("a",)),), ("a",)))

    def test_so_often(self):
        self.assertEqual(so_often(BET, (2, 3)), ((((2, 3), ("a",)), ((-1, 3), ("a", "b", "and"))), ("a", "b", "or")))
        self.assertEqual(so_often(BET, (0, 1)), ((((0, 1), ("a",)), ((0, 1), ("a", "b", "and"))), ("a", "b", "or")))
        self.assertEqual(so_often(BET, (-2, 1)), ((((-2, 1), ("a",)), ((1, 1), ("a", "b", "and"))), ("a", "b", "or")))
        self.assertEqual(so_often(BET, (1, 1)), BET)

    def test_with_more(self):
        one = (BET[0] + (((1, 1), ("yes",)),), BET[1])
        self.assertEqual(with_more(BET), one)
        self.assertEqual(with_more(BET, None), one)
        self.assertEqual(with_more(BET, amount=None), one)
        for amount in ((-3, 7), (0, 1), (5, 1)):
            due = (BET[0] + ((amount, ("yes",)),), BET[1])
            self.assertEqual(with_more(BET, amount), due)
            self.assertEqual(with_more(BET, amount=amount), due)

    def test_with_more_of_many_terms(self):
        self.assertEqual(with_more(of_terms(7)), (of_terms(7)[0] + (((1, 1), ("yes",)),), ("yes",)))
        self.refused(TooLong, with_more, of_terms(8))
        self.refused(TooLong, with_more, of_terms(8), (0, 1))
        self.refused(TooLong, with_more, of_terms(8), None)

    def test_together(self):
        other = ((((3, 1), ("b",)),), BET[1])
        self.assertEqual(together(BET, other), (BET[0] + other[0], BET[1]))
        self.assertEqual(together(other, BET), (other[0] + BET[0], BET[1]))
        self.assertEqual(together(of_terms(4), of_terms(4)), of_terms(8))
        self.assertEqual(together(of_terms(8), of_terms(0)), of_terms(8))

    def test_together_refused(self):
        self.refused(NotAlike, together, BET, (BET[0], ("b", "a", "or")))
        self.refused(TooLong, together, of_terms(4), of_terms(5))
        self.refused(TooLong, together, of_terms(8), of_terms(1))
        self.refused(NotAlike, together, of_terms(8, ("a",)), of_terms(8, ("b",)))
        self.refused(NotAlike, together, of_terms(1, ("yes",)), of_terms(1, ("no", "not")))

    def test_called_off(self):
        self.assertEqual(called_off(BET, ("b", "not")), (BET[0], ("a", "b", "or", "b", "not", "and")))

    def test_called_off_just_forty_and_one_more(self):
        given = ("a",) + ("not",) * 18
        for many in (1, 20):
            saying = ("b",) + ("not",) * (many - 1)
            self.assertEqual(called_off((BET[0], given), saying), (BET[0], given + saying + ("and",)))
        longest = called_off((BET[0], given), ("b",) + ("not",) * 19)
        self.assertEqual(len(longest[1]), 40)
        self.assertIs(is_bet("ab", longest), True)
        self.refused(TooLong, called_off, (BET[0], given), ("b",) + ("not",) * 20)
        self.refused(TooLong, called_off, (BET[0], ("a",) + ("not",) * 38), ("b",))

    def test_what_they_pay(self):
        maker = Maker(14)
        for turn in range(60):
            letters = maker.letters()
            bet, share, saying = maker.bet(letters), maker.fraction(), maker.saying(letters)
            other = (maker.bet(letters)[0], bet[1])
            for world in worlds((letters, ())):
                due = paid(letters, bet, world)
                if due is None:
                    for made in (turned(bet), so_often(bet, share), with_more(bet, share), together(bet, other),
                                 called_off(bet, saying)):
                        self.assertIsNone(pays(letters, made, world))
                    continue
                self.assertEqual(worth(pays(letters, turned(bet), world)), -due)
                self.assertEqual(worth(pays(letters, so_often(bet, share), world)), due * worth(share))
                self.assertEqual(worth(pays(letters, with_more(bet, share), world)), due + worth(share))
                self.assertEqual(worth(pays(letters, with_more(bet), world)), due + 1)
                self.assertEqual(worth(pays(letters, together(bet, other), world)), due + paid(letters, other, world))
                self.assertEqual(pays(letters, called_off(bet, saying), world),
                                 pair_of(due) if paid(letters, ((), saying), world) is not None else None)


if __name__ == "__main__":
    unittest.main()
