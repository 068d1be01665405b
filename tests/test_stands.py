"""Point 29: stands of a hall, and what holders have there."""

import unittest
from fractions import Fraction

from betstall.deeds import done
from betstall.judging import judged
from betstall.news import carried
from betstall.stands import first_stand, is_stand, worst_of, worth_at

from tests.halls import HallMaker, YES, all_have, having, on, stand_right
from tests.helpers import GREAT, Maker, check_checker, check_steady, often_changed, pair_of, shifted, variants, worlds

HOUSE = ("ab", ())
ON_A = on(("a",))
A_BY_B = on(("a",), ("b",))
# The long of the first gains 1 if a, else loses 1; it has just 1. The second hangs on b.
TICKETS = ((0, 0, 1, ON_A, (1, 2), (2, 1)), (3, 1, 2, A_BY_B, (1, 3), (3, 2)))
LISTS = (((ON_A, (1, 3)),), (), ((A_BY_B, (1, 2)), (ON_A, (0, 1))))
STAND = (HOUSE, ((1, 1), (1, 1), (1, 1)), TICKETS, LISTS, 4)
PLAIN = (("a", ()), ((0, 1), (5, 1)), (), ((), ()), 0)
TRIFLE = Fraction(1, 10 ** 9)


def with_part(at, part, stand=STAND):
    return stand[:at] + (part,) + stand[at + 1:]


def with_ticket(at, place, part, stand=STAND):
    ticket = stand[2][at]
    new = ticket[:place] + (part,) + ticket[place + 1:]
    return with_part(2, stand[2][:at] + (new,) + stand[2][at + 1:], stand)


def crowd(many, holders=6, house=HOUSE):
    """A stand of so many tickets, each of a holder with the next one."""
    tickets = tuple((at, at % holders, (at + 1) % holders, ON_A, (0, 1), (1, 1)) for at in range(many))
    return (house, ((50, 1),) * holders, tickets, ((),) * holders, many)


class TestIsStand(unittest.TestCase):

    def check(self, thing, due):
        self.assertIs(is_stand(thing), due, thing)
        self.assertIs(stand_right(thing), due, thing)

    def test_right_ones(self):
        self.check(STAND, True)
        self.check(PLAIN, True)
        self.check(with_part(4, GREAT), True)
        self.check(with_part(1, ((9, 1), (GREAT, 7), (1, 1))), True)

    def test_parts_too_few_or_many(self):
        self.check(STAND[:4], False)
        self.check(STAND + (0,), False)
        self.check(list(STAND), False)
        self.check((), False)
        for at in range(5):
            self.check(STAND[:at] + STAND[at + 1:], False)
            for part in (None, True, False, -1, "a", [], {}, ((),)):
                self.check(with_part(at, part), False)

    def test_houses(self):
        for house in (("ab", (("no",),)), ("ba", ()), ("", ()), ("ab",), ["ab", ()], ("ab", []), ("ab", (YES,) * 9)):
            self.check(with_part(0, house), False)
        self.check(with_part(0, ("ab", (YES,) * 8)), True)
        self.check(with_part(0, ("abc", ())), True)
        self.check(with_part(0, ("b", ()), PLAIN), True)
        # The tickets and lists are not over these letters.
        self.check(with_part(0, ("bc", ())), False)
        self.check(with_part(0, ("ac", ())), False)

    def test_two_to_six_purses(self):
        for many in range(9):
            stand = (HOUSE, ((1, 1),) * many, (), ((),) * many, 0)
            self.check(stand, 2 <= many <= 6)
            self.check((HOUSE, ((1, 1),) * many, (), ((),) * 3, 0), many == 3)

    def test_purses_that_are_none(self):
        for wrong in (1, None, (1, 0), (2, 2), (1, -1), (True, 1), [1, 1], "1", (0, 2), ()):
            self.check(with_part(1, (wrong, (1, 1)), PLAIN), False)
            self.check(with_part(1, ((9, 1), wrong, (9, 1))), False)
        self.check(with_part(1, [(0, 1), (5, 1)], PLAIN), False)
        self.check(with_part(1, ((-1, 1), (5, 1)), PLAIN), False)

    def test_just_nothing_at_the_worst_world(self):
        self.assertEqual([min(row[holder] for row in all_have(STAND).values()) for holder in range(3)], [0, 0, 0])
        for holder in range(3):
            purses = list(STAND[1])
            purses[holder] = shifted(purses[holder], -TRIFLE)
            self.check(with_part(1, tuple(purses)), False)
            purses[holder] = shifted(purses[holder], 2 * TRIFLE)
            self.check(with_part(1, tuple(purses)), True)

    def test_purses_below_nothing_that_tickets_cover(self):
        # 0 wins at least 2 by it, 1 loses at least 2.
        sure = ((0, 0, 1, on(YES, amount=(3, 1)), (1, 1), (1, 1)),)
        stand = (HOUSE, ((-2, 1), (2, 1)), sure, ((), ()), 1)
        self.check(stand, True)
        self.check(with_part(1, (shifted((-2, 1), -TRIFLE), (2, 1)), stand), False)
        self.check(with_part(1, ((-2, 1), shifted((2, 1), -TRIFLE)), stand), False)
        self.check(with_part(2, (), stand), False)

    def test_only_worlds_of_the_house_count(self):
        poor = with_part(1, ((0, 1), (9, 1), (9, 1)))
        self.check(poor, False)
        self.check(with_part(0, ("ab", (("a",),)), poor), True)

    def test_twelve_and_thirteen_tickets(self):
        for many in (0, 1, 11, 12, 13, 14):
            self.check(crowd(many), many <= 12)

    def test_numbers(self):
        for first, second, many, due in ((0, 1, 2, True), (0, 3, 4, True), (2, 3, 4, True), (0, 3, 3, False),
                                         (0, 2, 3, True), (0, 0, 4, False), (3, 0, 4, False), (-1, 3, 4, False),
                                         (0, 4, 4, False), (0, 10 ** 30, 10 ** 30 + 1, True), (0, 1, True, False),
                                         (False, 3, 4, False), (0, True, 4, False), (0, None, 4, False),
                                         (0, "1", 4, False), (0, 3, -4, False), (0, 3, (4, 1), False)):
            stand = with_part(4, many, with_ticket(0, 0, first, with_ticket(1, 0, second)))
            self.check(stand, due)
        self.check(with_part(4, False, PLAIN), False)
        self.check(with_part(4, -1, PLAIN), False)
        self.check(with_part(4, 7, PLAIN), True)

    def test_sides(self):
        rich = with_part(1, ((9, 1),) * 3)
        for long, short, due in ((0, 1, True), (2, 1, True), (1, 1, False), (0, 3, False), (3, 0, False),
                                 (-1, 0, False), (True, 2, False), (2, True, False), (0, False, False),
                                 (False, True, False), ("0", 1, False), (None, 1, False), ((0,), 1, False)):
            self.check(with_ticket(0, 1, long, with_ticket(0, 2, short, rich)), due)

    def test_bets_of_tickets(self):
        rich = with_part(1, ((9, 1),) * 3)
        for bet, due in ((ON_A, True), (((), YES), True), (on(("c",)), False), (((), ("no",)), False),
                         (on(("a",), ("a", "a", "not", "and")), False), (on(YES, ("a",)), True),
                         (list(ON_A), False), (None, False), ("a", False), (on(("a",), amount=(2, 2)), False),
                         ((((1, 9), YES),) * 8, False), (((((1, 9), YES),) * 8, YES), True),
                         (((((1, 9), YES),) * 9, YES), False)):
            self.check(with_ticket(0, 3, bet, rich), due)

    def test_a_bet_that_lives_nowhere_in_the_house(self):
        rich = with_part(1, ((9, 1),) * 3)
        behind = with_part(0, ("ab", (("b", "not"),)), with_part(3, ((), (), ()), rich))
        self.check(behind, False)
        self.check(with_part(2, TICKETS[:1], behind), True)
        self.check(with_part(3, (((A_BY_B, (1, 2)),), (), ()), with_part(2, TICKETS[:1], behind)), False)

    def test_prices_and_stakes(self):
        rich = with_part(1, ((9, 1),) * 3)
        for price in ((0, 1), (-1, 2), (1, 2), (3, 1)):
            self.check(with_ticket(1, 4, price, rich), True)
        for stake in ((1, 2), (1, GREAT), (3, 1)):
            self.check(with_ticket(1, 5, stake, rich), True)
        for wrong in (1, None, (1, 0), (2, 2), (1, -1), (True, 1), [1, 1], "1", (0, 2), ()):
            self.check(with_ticket(1, 4, wrong, rich), False)
            self.check(with_ticket(1, 5, wrong, rich), False)
        for stake in ((0, 1), (-1, 2), (-3, 1)):
            self.check(with_ticket(1, 5, stake, rich), False)

    def test_tickets_too_short_or_long(self):
        for ticket in (TICKETS[0][:5], TICKETS[0] + (0,), list(TICKETS[0]), TICKETS[0][1:], (), None):
            self.check(with_part(2, (ticket, TICKETS[1])), False)
        self.check(with_part(2, list(TICKETS)), False)

    def test_lists(self):
        bid = (ON_A, (0, 1))
        for many in range(9):
            self.check(with_part(3, (LISTS[0], (bid,) * many, LISTS[2])), many <= 6)
        dead = (on(YES, ("no",)), (0, 1))
        for row in (None, [bid], (bid, ON_A), ((ON_A, 1),), ((on(("c",)), (0, 1)),), (dead,), (bid, dead), bid):
            self.check(with_part(3, (LISTS[0], row, LISTS[2])), False)
        self.check(with_part(3, LISTS[:2]), False)
        self.check(with_part(3, LISTS + ((),)), False)
        self.check(with_part(3, list(LISTS)), False)

    def test_unfair_lists_are_not_looked_at(self):
        unfair = ((ON_A, (2, 1)), (A_BY_B, (5, 1)))
        self.assertEqual(judged(HOUSE, unfair)[0], "loss")
        self.check(with_part(3, (unfair, unfair, unfair)), True)

    def test_anything(self):
        maker = Maker(150)
        right = [STAND, PLAIN, with_part(1, ((9, 1),) * 3)]
        others = maker.dice.sample(variants(STAND), 1200) + variants(PLAIN)
        others += [often_changed(maker.dice, stand, many) for stand in right for many in (1, 2, 3) * 150]
        told = [judged(HOUSE, LISTS[0]), carried(HOUSE, LISTS[2], ("b",)), done(STAND, ("hear", ("a",))),
                done(STAND, ("split", 0, (1, 1)))]
        others += told + [thing[1] for thing in told]
        check_checker(self, is_stand, stand_right, others + right)
        self.assertIs(is_stand(told[2][1]), True)

    def test_whatever_stands(self):
        maker = HallMaker(151)
        for turn in range(60):
            stand = maker.stand(8)
            self.check(stand, True)
            for many in (1, 1, 1, 2):
                thing = often_changed(maker.dice, stand, many)
                self.assertIs(is_stand(thing), stand_right(thing), thing)
            holder = maker.holder(stand)
            poor = stand[1][:holder] + (shifted(stand[1][holder], -20 - TRIFLE),) + stand[1][holder + 1:]
            self.check(with_part(1, poor, stand), False)


class TestWorth(unittest.TestCase):

    def test_worth_at(self):
        # Worlds 00, 01, 10, 11.
        due = {"00": ((0, 1), (2, 1), (1, 1)), "01": ((0, 1), (3, 2), (3, 2)), "10": ((2, 1), (0, 1), (1, 1)),
               "11": ((2, 1), (1, 1), (0, 1))}
        for world, row in due.items():
            self.assertEqual(tuple(worth_at(STAND, holder, world) for holder in range(3)), row)

    def test_holders_without_tickets(self):
        stand = with_part(3, ((),) * 4, with_part(1, STAND[1] + ((7, 3),)))
        self.assertIs(is_stand(stand), True)
        for world in worlds(HOUSE):
            self.assertEqual(worth_at(stand, 3, world), (7, 3))
        self.assertEqual(worst_of(stand, 3), ((7, 3), "00"))
        self.assertEqual(worst_of(PLAIN, 0), ((0, 1), "0"))
        self.assertEqual(worst_of(PLAIN, 1), ((5, 1), "0"))

    def test_the_first_of_several_worst_worlds(self):
        self.assertEqual(worst_of(STAND, 0), ((0, 1), "00"))
        self.assertEqual(worst_of(STAND, 1), ((0, 1), "10"))
        self.assertEqual(worst_of(STAND, 2), ((0, 1), "11"))
        narrow = with_part(0, ("ab", (("a", "b", "or"),)))
        self.assertEqual(worst_of(narrow, 0), ((0, 1), "01"))
        self.assertEqual(worst_of(with_part(0, ("ab", (("a",),)), STAND), 0), ((2, 1), "10"))

    def test_second_ways(self):
        maker = HallMaker(152)
        for turn in range(80):
            stand = maker.stand(8)
            for holder in range(len(stand[1])):
                row = [(having(stand, holder, world), world) for world in worlds(stand[0])]
                for due, world in row:
                    self.assertEqual(worth_at(stand, holder, world), pair_of(due))
                self.assertEqual(worst_of(stand, holder), (pair_of(min(row)[0]), min(row)[1]))

    def test_asked_again(self):
        maker = HallMaker(153)
        calls = []
        for turn in range(8):
            stand = maker.stand()
            calls.append((stand, maker.holder(stand), worlds(stand[0])[0]))
        check_steady(self, worth_at, calls)
        check_steady(self, worst_of, [call[:2] for call in calls])
        check_steady(self, is_stand, [call[:1] for call in calls])


class TestFirstStand(unittest.TestCase):

    def test_first_stand(self):
        for many in range(2, 7):
            purses = tuple((at, 1) for at in range(many))
            told = first_stand(HOUSE, purses)
            self.assertEqual(told, (HOUSE, purses, (), ((),) * many, 0))
            self.assertIs(is_stand(told), True)
        check_steady(self, first_stand, [(HOUSE, ((0, 1), (1, 2))), (("a", ()), ((0, 1), (1, 2)))])


if __name__ == "__main__":
    unittest.main()
