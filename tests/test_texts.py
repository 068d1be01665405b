"""Point 34: texts written, and fractions read."""

import unittest
from fractions import Fraction

from betstall.errors import NoText
from betstall.fractions import times
from betstall.texts import read_fraction, show_bet, show_bid, show_fraction, show_saying, show_stall

from tests.helpers import Maker, check_refused, check_steady, pair_of, things
from tests.papers import bet_text, bid_text, changed_text, fraction_text, second_fraction, stall_text

YES = ("yes",)
LEAST_TOO_LONG = 10 ** 300


def long_text(number):
    """A number's figures, one by one."""
    told = []
    while number:
        number, figure = divmod(number, 10)
        told.append("0123456789"[figure])
    return "".join(reversed(told))


class TestShow(unittest.TestCase):

    def test_fractions(self):
        for pair, text in (((0, 1), "0"), ((1, 1), "1"), ((-1, 1), "-1"), ((1, 2), "1/2"), ((-3, 7), "-3/7"),
                           ((10, 1), "10"), ((-200, 3), "-200/3"), ((1, 10), "1/10"), ((12345, 67891), "12345/67891")):
            self.assertEqual(show_fraction(pair), text)
            self.assertEqual(read_fraction(text), pair)

    def test_however_many_figures(self):
        for many in (59, 60, 61, 119, 120, 121, 299, 300, 301, 400, 1000, 3999, 4000):
            for number in (10 ** (many - 1), 10 ** many - 1, 10 ** (many - 1) + 7, 37 * 10 ** many // 41 + 10 ** 30):
                text = long_text(number)
                self.assertEqual(show_fraction((number, 1)), text)
                self.assertEqual(show_fraction((-number, 1)), "-" + text)
                self.assertEqual(show_fraction((1, number)), "1/" + text)
                self.assertEqual(show_fraction((-number, number + 1)), "-" + text + "/" + long_text(number + 1))

    def test_even_more_than_python_writes(self):
        number = 7 ** 6000
        self.assertEqual(show_fraction((number, 1)), long_text(number))

    def test_sayings(self):
        self.assertEqual(show_saying(YES), "yes")
        self.assertEqual(show_saying(("a", "b", "not", "and")), "a b not and")

    def test_bets(self):
        self.assertEqual(show_bet(((), YES)), "given yes")
        self.assertEqual(show_bet(((((1, 2), ("a",)), ((-3, 1), ("b", "not"))), ("a", "b", "or"))),
                         "given a b or pays 1/2 if a pays -3 if b not")
        self.assertEqual(show_bid((((((1, 2), ("a",)),), ("b",)), (-1, 3))), "given b pays 1/2 if a at -1/3")
        self.assertEqual(show_bid((((), YES), (0, 1))), "given yes at 0")

    def test_stalls(self):
        self.assertEqual(show_stall(("a", ()), ()), "letters a\n")
        self.assertEqual(show_stall(("ab", (("a", "b", "or"), YES)), ((((), YES), (0, 1)), (((), ("b",)), (1, 2)))),
                         "letters ab\nrule a b or\nrule yes\nbid given yes at 0\nbid given b at 1/2\n")

    def test_second_ways(self):
        maker = Maker(190)
        for turn in range(80):
            house = maker.house()
            bet, bids = maker.bet(house[0]), maker.bids(house, maker.dice.randint(0, 3))
            self.assertEqual(show_bet(bet), bet_text(bet))
            self.assertEqual(show_stall(house, bids), stall_text(house, bids))
            for bid in bids:
                self.assertEqual(show_bid(bid), bid_text(bid))
            pair = maker.fraction(10 ** maker.dice.randint(1, 40))
            self.assertEqual(show_fraction(pair), fraction_text(pair))
            saying = maker.saying(house[0])
            self.assertEqual(show_saying(saying), " ".join(saying))

    def test_asked_again(self):
        maker = Maker(191)
        check_steady(self, show_fraction, [(maker.fraction(),) for turn in range(10)])
        check_steady(self, show_bet, [(maker.bet("ab"),) for turn in range(10)])
        houses = [maker.house() for turn in range(6)]
        check_steady(self, show_stall, [(house, maker.bids(house, 2)) for house in houses])
        check_steady(self, show_bid, [maker.bids(house, 1) for house in houses])
        check_steady(self, show_saying, [(maker.saying("ab"),) for turn in range(10)])


class TestReadFraction(unittest.TestCase):

    def check(self, thing):
        due = second_fraction(thing)
        if due is None:
            check_refused(self, NoText, read_fraction, thing)
        else:
            self.assertEqual(repr(read_fraction(thing)), repr(due))
        return due

    def test_refused(self):
        for text in ("", "-", "/", "+1", "-0", "00", "01", "-01", "1/", "/2", "1/1", "-1/1", "0/1", "0/2", "1/0",
                     "0/0", "2/4", "-2/4", "6/3", "1/02", "1/-2", "1/+2", "--1", "1/2/3", "1 /2", "1/ 2", " 1", "1 ",
                     "1\n", "\n1", "1.5", "1e3", "1_000", "0x1", "a", "1a", "one", "yes", "1,000", "-/2", "1//2", "-0/3"):
            self.assertIsNone(self.check(text), text)

    def test_right_ones(self):
        for text in ("0", "1", "-1", "9", "10", "-10", "1/2", "-1/2", "100/3", "3/100", "22/7", "1/10"):
            self.assertIsNotNone(self.check(text), text)

    def test_three_hundred_figures(self):
        most = LEAST_TOO_LONG - 1
        for top, bottom, due in ((most, 1, True), (-most, 1, True), (1, most, True), (-1, most, True),
                                 (most, most - 1, True), (-most, most - 1, True), (LEAST_TOO_LONG, 1, False),
                                 (-LEAST_TOO_LONG, 1, False), (1, LEAST_TOO_LONG, False), (-1, LEAST_TOO_LONG, False),
                                 (LEAST_TOO_LONG, 7, False), (7, LEAST_TOO_LONG, False),
                                 (LEAST_TOO_LONG, LEAST_TOO_LONG + 1, False), (10 ** 400, 1, False)):
            text = show_fraction((top, bottom))
            self.assertEqual(self.check(text) is not None, due)
        for text in ("1" * 300, "-" + "1" * 300, "1" * 301, "1" * 20000, "0" * 300, "1/" + "3" * 20000, "-" * 300):
            self.check(text)
        self.assertEqual(read_fraction("-" + "1" * 300), (-int("1" * 300), 1))

    def test_what_is_written_is_read(self):
        maker = Maker(192)
        for turn in range(200):
            pair = maker.fraction(10 ** maker.dice.randint(1, 150))
            self.assertEqual(repr(read_fraction(show_fraction(pair))), repr(pair))
            self.assertEqual(read_fraction(show_fraction(times(pair, (1, 1)))), pair)

    def test_anything(self):
        for thing in things() + [(1, 2), ["1"], ("1",), 5, Fraction, b"1"]:
            self.check(thing)

    def test_texts_changed(self):
        maker = Maker(193)
        read = 0
        for turn in range(1500):
            text = show_fraction(pair_of(Fraction(maker.dice.randint(-999, 999), maker.dice.randint(1, 99))))
            read += self.check(changed_text(maker.dice, text)) is not None
        self.assertGreater(read, 100)

    def test_other_figures(self):
        # Signs that Python takes for figures elsewhere.
        for text in ("\u0661", "1/\u0662", "\u00b2", "\uff11"):
            check_refused(self, NoText, read_fraction, text)


if __name__ == "__main__":
    unittest.main()
