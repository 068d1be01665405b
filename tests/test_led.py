"""Point 28: houses led by names."""

import unittest

from betstall.bets import is_bet, pays
from betstall.bids import are_bids
from betstall.houses import is_house, worlds_of
from betstall.judging import judged
from betstall.led import led_bet, led_house, led_letters, led_saying, led_weighing, led_world
from betstall.prices import low_of
from betstall.sayings import holds, is_saying
from betstall.weighings import is_weighing, mean_of

from tests.helpers import ALL_LETTERS, Maker, check_steady, mean, paid, truth, worlds


def named(maker, letters):
    """Names in whatever order, some of the letters themselves among them now and then."""
    pool = letters + ALL_LETTERS if maker.dice.random() < 0.5 else ALL_LETTERS
    while True:
        names = "".join(maker.dice.choice(pool) for letter in letters)
        if len(set(names)) == len(names):
            return names


def back(letters, names):
    """The names that lead back: for each new letter the letter whose name it was."""
    return "".join(letters[names.index(name)] for name in sorted(names))


class TestLed(unittest.TestCase):

    def test_letters(self):
        self.assertEqual(led_letters("abc", "zxy"), "xyz")
        self.assertEqual(led_letters("abc", "bca"), "abc")
        self.assertEqual(led_letters("abc", "abc"), "abc")
        self.assertEqual(led_letters("q", "p"), "p")
        self.assertEqual(led_letters("abcdef", "fedcba"), "abcdef")

    def test_sayings(self):
        self.assertEqual(led_saying("ab", ("a", "b", "not", "and"), "ba"), ("b", "a", "not", "and"))
        self.assertEqual(led_saying("ab", ("a", "b", "not", "and"), "zy"), ("z", "y", "not", "and"))
        self.assertEqual(led_saying("abc", ("a", "b", "or", "c", "same"), "bca"), ("b", "c", "or", "a", "same"))
        self.assertEqual(led_saying("ab", ("yes",), "no"), ("yes",))
        self.assertEqual(led_saying("no", ("no", "n", "or", "o", "or"), "on"), ("no", "o", "or", "n", "or"))
        self.assertEqual(led_saying("a", ("a",) + ("not",) * 39, "a"), ("a",) + ("not",) * 39)

    def test_bets(self):
        bet = ((((1, 2), ("a",)), ((-1, 3), ("b", "a", "and"))), ("b", "not"))
        self.assertEqual(led_bet("ab", bet, "bz"), ((((1, 2), ("b",)), ((-1, 3), ("z", "b", "and"))), ("z", "not")))
        self.assertEqual(led_bet("ab", ((), ("a",)), "ba"), ((), ("b",)))

    def test_houses(self):
        self.assertEqual(led_house(("ab", (("a",), ("a", "b", "or"))), "zc"), ("cz", (("z",), ("z", "c", "or"))))
        self.assertEqual(led_house(("ab", ()), "ba"), ("ab", ()))

    def test_worlds(self):
        self.assertEqual(led_world("abc", "011", "zxy"), "110")
        self.assertEqual(led_world("abc", "100", "zxy"), "001")
        self.assertEqual(led_world("abc", "100", "bca"), "010")
        self.assertEqual(led_world("abc", "001", "abc"), "001")
        self.assertEqual(led_world("x", "1", "a"), "1")

    def test_weighings(self):
        weighing = ((1, 2), (1, 3), (1, 6))
        house = ("ab", (("a", "b", "or"),))
        # The worlds 01, 10, 11 are led to 10, 01, 11.
        self.assertEqual(led_weighing(house, weighing, "ba"), ((1, 3), (1, 2), (1, 6)))
        self.assertEqual(led_weighing(house, weighing, "yz"), weighing)

    def test_what_holds_and_what_is_paid_is_what_it_was(self):
        maker = Maker(145)
        for turn in range(60):
            house = maker.house(1, 6)
            letters = house[0]
            names = named(maker, letters)
            new = led_letters(letters, names)
            saying, bet = maker.saying(letters), maker.bet(letters)
            led, paying = led_saying(letters, saying, names), led_bet(letters, bet, names)
            self.assertIs(is_saying(new, led), True)
            self.assertIs(is_bet(new, paying), True)
            for world in worlds((letters, ())):
                there = led_world(letters, world, names)
                self.assertEqual(holds(new, led, there), truth(letters, saying, world))
                self.assertEqual(truth(new, led, there), truth(letters, saying, world))
                self.assertEqual(pays(new, paying, there), pays(letters, bet, world))
                self.assertEqual(paid(new, paying, there), paid(letters, bet, world))
                self.assertEqual({name: there[new.index(name)] for name in names}, dict(zip(names, world)))

    def test_worlds_and_means_are_led(self):
        maker = Maker(146)
        for turn in range(60):
            house = maker.house(1, 5)
            letters = house[0]
            names = named(maker, letters)
            led = led_house(house, names)
            self.assertIs(is_house(led), True)
            self.assertEqual(sorted(led_world(letters, world, names) for world in worlds(house)),
                             list(worlds_of(led)))
            weighing = maker.weighing(house)
            told = led_weighing(house, weighing, names)
            self.assertIs(is_weighing(led, told), True)
            shares = dict(zip(worlds(led), told))
            for world, share in zip(worlds(house), weighing):
                self.assertEqual(shares[led_world(letters, world, names)], share)
            bet = maker.bet(letters)
            self.assertEqual(mean_of(led, told, led_bet(letters, bet, names)), mean_of(house, weighing, bet))
            self.assertEqual(mean(led, told, led_bet(letters, bet, names)), mean(house, weighing, bet))

    def test_led_back(self):
        maker = Maker(147)
        for turn in range(60):
            house = maker.house(1, 6)
            letters = house[0]
            names = named(maker, letters)
            new, home = led_letters(letters, names), back(letters, names)
            saying, bet, weighing = maker.saying(letters), maker.bet(letters), maker.weighing(house)
            self.assertEqual(led_letters(new, home), letters)
            self.assertEqual(led_saying(new, led_saying(letters, saying, names), home), saying)
            self.assertEqual(led_bet(new, led_bet(letters, bet, names), home), bet)
            led = led_house(house, names)
            self.assertEqual(led_house(led, home), house)
            self.assertEqual(led_weighing(led, led_weighing(house, weighing, names), home), weighing)
            for world in worlds(house):
                self.assertEqual(led_world(new, led_world(letters, world, names), home), world)

    def test_lists_are_led(self):
        maker = Maker(148)
        for turn in range(25):
            house = maker.house(2, 4)
            letters = house[0]
            names = named(maker, letters)
            bids = maker.borne(house, 3)[1] if turn % 2 else maker.bids(house, 3)
            led = led_house(house, names)
            row = tuple((led_bet(letters, bet, names), price) for bet, price in bids)
            self.assertIs(are_bids(led, row), True)
            kind = judged(house, bids)[0]
            self.assertEqual(judged(led, row)[0], kind)
            if kind == "fair":
                bet = maker.living_bet(house)
                self.assertEqual(low_of(led, row, led_bet(letters, bet, names))[0], low_of(house, bids, bet)[0])

    def test_asked_again(self):
        maker = Maker(149)
        calls = []
        for turn in range(8):
            house = maker.house(1, 5)
            calls.append((house, named(maker, house[0])))
        check_steady(self, led_house, calls)
        check_steady(self, led_letters, [(house[0], names) for house, names in calls])
        check_steady(self, led_saying, [(house[0], maker.saying(house[0]), names) for house, names in calls])
        check_steady(self, led_bet, [(house[0], maker.bet(house[0]), names) for house, names in calls])
        check_steady(self, led_world, [(house[0], worlds(house)[0], names) for house, names in calls])
        check_steady(self, led_weighing, [(house, maker.weighing(house), names) for house, names in calls])


if __name__ == "__main__":
    unittest.main()
