"""Points 1 and 3, (a) to (j): drawn houses and lists, all that is told of them held against one another."""

import unittest
from fractions import Fraction

from betstall.beside import beside, layers_beside
from betstall.bets import called_off, so_often, together, turned, with_more
from betstall.between import between, right_between
from betstall.books import right_loss
from betstall.causepaper import right_cause
from betstall.causes import cause_of
from betstall.daying import judged_days
from betstall.desk import Desk
from betstall.errors import StallError, Unfair
from betstall.fractions import less, plus, times, turned_about
from betstall.hall import Hall
from betstall.houses import narrowed, worlds_of
from betstall.idle import idle_in, without_idle
from betstall.judging import judged
from betstall.layers import layer_of, mean_in, right_layers
from betstall.led import led_bet, led_house
from betstall.lowpaper import right_low
from betstall.news import carried
from betstall.prices import high_of, low_of, takes
from betstall.reader import read_stall
from betstall.runs import right_run, run
from betstall.stands import first_stand, is_stand, worth_at
from betstall.texts import show_stall
from betstall.tight import are_tight, tightened
from betstall.twodays import joined, right_days

from tests.halls import HallMaker, YES, on
from tests.helpers import (Maker, check_refused, gained, layers_right, losing, low_right, mean_through, shifted, truth,
                           worlds, worth)

TRIFLE = Fraction(1, 10 ** 9)
ALL = ("no", "not")


def drawn(maker, many=4):
    """A house, layers and bids that they bear, on whatever may be."""
    house = maker.house(2, 4)
    layers, bids = maker.borne(house, maker.dice.randint(0, many))
    return house, layers, bids


def at_highest(paper):
    """The price paper of the turned bet that a highest price brings."""
    return (turned_about(paper[0]),) + paper[1:]


def short_saying(maker, house):
    """A saying of a few words that may be."""
    while True:
        saying = maker.saying(house[0], 4)
        if any(truth(house[0], saying, world) for world in worlds(house)):
            return saying


class TestFairOrUnfair(unittest.TestCase):

    def test_layers_or_stakes(self):
        maker = Maker(210)
        seen = []
        for turn in range(80):
            house = maker.house(2, 5)
            bids = maker.bids(house, maker.dice.randint(0, 6)) if turn % 2 else maker.borne(house, 6)[1]
            kind, told = judged(house, bids)
            seen.append(kind)
            if kind == "fair":
                self.assertLessEqual(len(told), len(bids))
                self.assertIs(right_layers(house, bids, told), True)
                self.assertTrue(layers_right(house, bids, told))
                # What bears a list keeps whatever stakes from losing surely.
                for again in range(10):
                    self.assertFalse(right_loss(house, bids, maker.stakes(len(bids))))
            else:
                self.assertIs(right_loss(house, bids, told), True)
                self.assertTrue(losing(house, bids, told))
                self.assertFalse(right_layers(house, bids, maker.layers(house, 3)))
            self.assertEqual(kind, between(house, bids, ())[0].replace("gain", "loss"))
            self.assertEqual(kind, judged_days(house, bids, (YES,), ((),))[0])
        self.assertGreater(seen.count("fair"), 30)
        self.assertGreater(seen.count("loss"), 15)

    def test_within_one_another(self):
        # Each list hangs on what weighs nothing by the one ahead.
        house = ("abcd", ())
        bids, given = (), ALL
        for letter in "abcd":
            bids += ((on((letter, "not"), given), (1, 1)),)
            given = (letter,) if given == ALL else given + (letter, "and")
        bids += ((on(("a",), given), (1, 1)),)
        kind, layers = judged(house, bids)
        self.assertEqual((kind, len(layers)), ("fair", 5))
        self.assertEqual([layer_of(house, layers, bet[1]) for bet, price in bids], [0, 1, 2, 3, 4])
        self.assertTrue(layers_right(house, bids, layers))
        self.assertFalse(layers_right(house, bids, layers[:4]))


class TestPrices(unittest.TestCase):

    def test_from_the_lowest_to_the_highest(self):
        maker = Maker(211)
        for turn in range(40):
            house, layers, bids = drawn(maker)
            bet = maker.living_bet(house)
            low, high = low_of(house, bids, bet), high_of(house, bids, bet)
            self.assertIs(right_low(house, bids, bet, low), True)
            self.assertTrue(low_right(house, bids, bet, low))
            self.assertIs(right_low(house, bids, turned(bet), at_highest(high)), True)
            self.assertFalse(less(high[0], low[0]))
            self.assertLessEqual(worth(low[0]), mean_through(house, layers, bet))
            self.assertGreaterEqual(worth(high[0]), mean_through(house, layers, bet))
            for share in (Fraction(0), Fraction(1, 3), Fraction(1)):
                price = shifted(low[0], share * (worth(high[0]) - worth(low[0])))
                self.assertIs(takes(house, bids, (bet, price)), True)
                # Some layers mean just this price: the list is fair with the bet both ways.
                both = bids + ((bet, price), (turned(bet), turned_about(price)))
                kind, told = judged(house, both)
                self.assertEqual(kind, "fair")
                self.assertEqual(mean_in(house, told, bet), price)
                self.assertIs(right_layers(house, bids, told), True)
            self.assertIs(takes(house, bids, (bet, shifted(high[0], TRIFLE))), False)
            self.assertEqual(low_of(house, bids + ((bet, high[0]),), bet)[0], high[0])

    def test_first_layers_that_free_it(self):
        # a is held for sure not to be; on a, b has whatever price that the other bids on a leave.
        house = ("ab", ())
        bids = ((on(("a", "not")), (1, 1)), (on(("b",), ("a",)), (1, 3)), (on(("b", "not"), ("a",)), (1, 3)))
        low, high = low_of(house, bids, on(("b",), ("a",))), high_of(house, bids, on(("b",), ("a",)))
        self.assertEqual((low[0], high[0]), ((1, 3), (2, 3)))
        self.assertGreater(layer_of(house, low[1], ("a",)), 0)

    def test_laws_of_prices(self):
        maker = Maker(212)
        for turn in range(40):
            house, layers, bids = drawn(maker, 3)
            one = maker.living_bet(house, 2)
            other = (maker.bet(house[0], 2)[0], one[1])
            low = low_of(house, bids, one)[0]
            share, more = maker.from_zero(), maker.fraction()
            self.assertEqual(low_of(house, bids, so_often(one, share))[0], times(share, low))
            self.assertEqual(low_of(house, bids, with_more(one, more))[0], plus(low, more))
            both = low_of(house, bids, together(one, other))[0]
            self.assertFalse(less(both, plus(low, low_of(house, bids, other)[0])))
            self.assertEqual(high_of(house, bids, one)[0], turned_about(low_of(house, bids, turned(one))[0]))
            greater = (one[0] + ((maker.from_zero(), maker.saying(house[0])),), one[1])
            self.assertFalse(less(low_of(house, bids, greater)[0], low))


class TestLists(unittest.TestCase):

    def test_tightened_and_idle(self):
        maker = Maker(213)
        for turn in range(30):
            house, layers, bids = drawn(maker)
            tight = tightened(house, bids)
            self.assertIs(are_tight(house, tight), True)
            for (bet, price), (same, raised) in zip(bids, tight):
                self.assertEqual(bet, same)
                self.assertFalse(less(raised, price))
                self.assertEqual(low_of(house, tight, bet)[0], raised)
            self.assertIs(right_layers(house, tight, judged(house, bids)[1]), True)
            self.assertIs(right_layers(house, bids, judged(house, tight)[1]), True)
            self.assertEqual(right_layers(house, tight, layers), right_layers(house, bids, layers))
            left = without_idle(house, bids)
            kept = tuple(bids[number] for number in left)
            self.assertEqual(idle_in(house, kept), ())
            self.assertLessEqual(set(range(len(bids))) - set(left), set(idle_in(house, bids)))
            bet = maker.living_bet(house)
            for asked in (low_of, high_of):
                due = asked(house, bids, bet)[0]
                self.assertEqual(asked(house, tight, bet)[0], due)
                self.assertEqual(asked(house, kept, bet)[0], due)

    def test_to_blame(self):
        maker = Maker(214)
        seen = 0
        for turn in range(60):
            house = maker.house(1, 4)
            bids = maker.bids(house, maker.dice.randint(2, 7))
            if judged(house, bids)[0] == "loss":
                seen += 1
                cause = cause_of(house, bids)
                self.assertIs(right_cause(house, bids, cause), True)
                self.assertLessEqual(len(cause[0]), len(worlds(house)))
                blamed = [bids[number] for number in cause[0]]
                self.assertEqual(judged(house, tuple(blamed))[0], "loss")
                for at in range(len(blamed)):
                    self.assertEqual(judged(house, tuple(blamed[:at] + blamed[at + 1:]))[0], "fair")
                for asked in (lambda: low_of(house, bids, on(YES)), lambda: tightened(house, bids),
                              lambda: carried(house, bids, YES), lambda: idle_in(house, bids)):
                    check_refused(self, Unfair, asked)
        self.assertGreater(seen, 20)

    def test_behind_news(self):
        maker = Maker(215)
        for turn in range(30):
            house, layers, bids = drawn(maker)
            saying = short_saying(maker, house)
            behind, rows = carried(house, bids, saying)
            self.assertEqual(behind, narrowed(house, saying))
            self.assertEqual(judged(behind, rows)[0], "fair")
            self.assertIs(are_tight(behind, rows), True)
            for bet, price in rows:
                self.assertEqual(low_of(house, bids, called_off(bet, saying))[0], price)
            contrary = saying + ("not",)
            if any(truth(house[0], contrary, world) for world in worlds(house)):
                cells = (saying, contrary)
                lists = (rows, carried(house, bids, contrary)[1])
                together_fair = judged_days(house, bids, cells, lists)
                self.assertEqual(together_fair[0], "fair")
                self.assertIs(right_layers(house, joined(house, bids, cells, lists), together_fair[1]), True)
                if rows:
                    # Who gives more than the highest today, or tomorrow in one cell, loses surely.
                    bet, price = rows[0]
                    over = shifted(high_of(house, bids, called_off(bet, saying))[0], TRIFLE)
                    kind, days = judged_days(house, bids, cells, (((bet, over),), ()))
                    self.assertEqual(kind, "loss")
                    self.assertIs(right_days(house, bids, cells, (((bet, over),), ()), days), True)


class TestStalls(unittest.TestCase):

    def test_between(self):
        maker = Maker(216)
        for turn in range(30):
            house, layers, one = drawn(maker, 3)
            other = maker.borne(house, 2)[1]
            kind, told = between(house, one, other)
            if kind == "fair":
                self.assertIs(right_layers(house, one, told) and right_layers(house, other, told), True)
            else:
                self.assertIs(right_between(house, one, other, told), True)
                self.assertFalse(right_loss(house, one, told[0]))
                self.assertFalse(right_loss(house, other, told[1]))
            self.assertEqual(kind == "fair", judged(house, other + one)[0] == "fair")
            # A stall that sells for less than the lowest price is gone between.
            bet = maker.living_bet(house)
            seller = ((turned(bet), turned_about(shifted(low_of(house, one, bet)[0], -TRIFLE))),)
            self.assertEqual(between(house, one, seller)[0], "gain")
            seller = ((turned(bet), turned_about(low_of(house, one, bet)[0])),)
            self.assertEqual(between(house, one, seller)[0], "fair")

    def test_beside(self):
        maker = Maker(217)
        for turn in range(20):
            one = maker.house(1, 3)
            names = "".join(sorted(set("uvwxyz") - set(one[0])))[:2]
            letters = maker.house(2, 2)
            other = led_house(letters, names)
            bids = maker.borne(one, 2)[1]
            others = tuple((led_bet(letters[0], bet, names), price) for bet, price in maker.borne(letters, 2)[1])
            house = beside(one, other)
            layers = judged(one, bids)[1] or maker.layers(one, 1)
            further = judged(other, others)[1] or maker.layers(other, 1)
            self.assertIs(right_layers(house, bids + others, layers_beside(one, layers, other, further)), True)
            self.assertEqual(len(worlds_of(house)), len(worlds_of(one)) * len(worlds_of(other)))
            bet = maker.living_bet(one)
            self.assertEqual(low_of(house, bids + others, bet)[0], low_of(one, bids, bet)[0])


class TestHalls(unittest.TestCase):

    def test_a_hall_a_run_and_a_list_that_news_carry_on(self):
        maker = HallMaker(218)
        for turn in range(20):
            house = maker.house(2, 3)
            purses = tuple((maker.dice.randint(0, 30), 1) for holder in range(3))
            stand, hall, deeds = first_stand(house, purses), Hall(house, purses), []
            for again in range(20):
                deed = maker.deed(hall.stand())
                deeds.append(deed)
                ahead = hall.stand()
                try:
                    hall.do(deed)
                except StallError:
                    self.assertEqual(hall.stand(), ahead)
                self.assertIs(is_stand(hall.stand()), True)
                self.assertEqual(sum(worth(purse) for purse in hall.stand()[1]), sum(worth(purse) for purse in purses))
                for row in hall.stand()[3]:
                    self.assertEqual(judged(hall.stand()[0], row)[0], "fair")
            told = run(stand, tuple(deeds))
            self.assertEqual(told[1], hall.stand())
            self.assertIs(right_run(stand, tuple(deeds), told), True)
            self.assertEqual(hall.steps(), sum(not isinstance(one, str) for one in told[0]))

    def test_lists_are_carried_as_alone(self):
        maker = HallMaker(219)
        for turn in range(20):
            house = maker.house(2, 3)
            bids = [maker.borne(house, 3)[1] for holder in range(2)]
            hall = Hall(house, ((5, 1), (5, 1)))
            for holder, row in enumerate(bids):
                self.assertEqual(hall.do(("post", holder, row)), len(row))
            saying = short_saying(maker, house)
            self.assertEqual(hall.do(("hear", saying)), ())
            behind = narrowed(house, saying)
            self.assertEqual(hall.stand()[0], behind)
            self.assertEqual(hall.stand()[3], tuple(carried(house, row, saying)[1] for row in bids))

    def test_the_posting_holder_does_not_surely_lose(self):
        maker = HallMaker(220)
        for turn in range(20):
            house = maker.house(2, 3)
            bids = maker.borne(house, 3)[1]
            stand = first_stand(house, ((60, 1), (60, 1)))
            deeds = [("post", 0, bids)] + [("sell", 1, 0, place, maker.above()) for place in range(3)]
            tells, behind = run(stand, tuple(deeds))
            sold = [(at, deed[4]) for at, (deed, told) in enumerate(zip(deeds[1:], tells[1:])) if told in range(9)]
            stakes = tuple(dict(sold).get(at, (0, 1)) for at in range(3))
            self.assertFalse(right_loss(house, bids, stakes))
            gains = gained(house, bids, stakes)
            for world, gain in zip(worlds(house), gains):
                self.assertEqual(worth(worth_at(behind, 0, world)), 60 + (gain or 0))

    def test_a_desk_tells_what_a_hall_does(self):
        house, bids = read_stall("letters ab\nrule a b or\nbid given b pays 1 if a at 1/3\n")
        self.assertEqual(show_stall(house, bids), "letters ab\nrule a b or\nbid given b pays 1 if a at 1/3\n")
        desk, hall = Desk(house, ((5, 1), (5, 1))), Hall(house, ((5, 1), (5, 1)))
        self.assertEqual(desk.say("post 0 bid given b pays 1 if a at 1/3"), "posted 1")
        hall.do(("post", 0, bids))
        self.assertEqual(desk.say("sell 1 0 0 3/2"), "ticket 0")
        hall.do(("sell", 1, 0, 0, (3, 2)))
        self.assertEqual(desk.say("hear b"), "paid none")
        hall.do(("hear", ("b",)))
        self.assertEqual(desk.say("hear a not"), "paid 0")
        self.assertEqual(hall.do(("hear", ("a", "not"))), (0,))
        self.assertEqual((desk.say("purse 0"), desk.say("purse 1")), ("9/2", "11/2"))
        self.assertEqual(hall.stand()[1], ((9, 2), (11, 2)))


if __name__ == "__main__":
    unittest.main()
