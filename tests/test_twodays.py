"""Point 25: two days."""

import unittest
from fractions import Fraction

from betstall.bets import called_off, turned
from betstall.bids import are_bids
from betstall.books import gains_of
from betstall.daying import judged_days
from betstall.errors import TooLong, TooMany
from betstall.fractions import turned_about
from betstall.houses import narrowed
from betstall.judging import judged
from betstall.layers import right_layers
from betstall.news import carried
from betstall.twodays import gains_over, joined, right_days

from tests.helpers import (GREAT, Maker, always, check_checker, check_refused, check_steady, days_gained, days_right,
                           layers_right, pair_of, shifted, truth, variants, worlds)

HOUSE = ("ab", ())
SIX = ("abcdef", ())


def on(saying, given=("yes",)):
    return ((((1, 1), saying),), given)


ON_A = on(("a",))
ON_B = on(("b",))
A_BY_B = on(("a",), ("b",))
CELLS = (("b",), ("b", "not"))
# Today it gives 1/2 for a; tomorrow, whatever b is, it sells a for less: so it loses surely.
BIDS = ((ON_A, (1, 2)),)
LISTS = (((turned(ON_A), (-1, 3)),), ((turned(ON_A), (-1, 4)),))
DAYS = (((1, 1),), (((1, 1),), ((1, 1),)))


def parts_of(one, other):
    """One to four cells, by two sayings."""
    both = [(one + other + ("and",)), (one + other + ("not", "and")),
            (one + ("not",) + other + ("and",)), (one + ("not",) + other + ("not", "and"))]
    return ((("yes",),), (one, one + ("not",)), (one, both[2], both[3]), tuple(both))


def made_cells(maker, house):
    """Cells, one to four, each of which may be."""
    while True:
        one, other = maker.saying(house[0], 5), maker.saying(house[0], 5)
        cells = maker.dice.choice(parts_of(one, other))
        if all(any(truth(house[0], cell, world) for world in worlds(house)) for cell in cells):
            return cells


class TestJoined(unittest.TestCase):

    def test_in_order(self):
        lists = (((ON_A, (1, 3)), (A_BY_B, (1, 4))), ((on(("a",), ("a",)), (1, 5)),))
        self.assertEqual(joined(HOUSE, BIDS, CELLS, lists),
                         BIDS + ((on(("a",), ("yes", "b", "and")), (1, 3)), (on(("a",), ("b", "b", "and")), (1, 4)),
                                 (on(("a",), ("a", "b", "not", "and")), (1, 5))))
        self.assertEqual(joined(HOUSE, (), (("yes",),), ((),)), ())
        self.assertEqual(joined(HOUSE, BIDS, (("yes",),), ((),)), BIDS)
        self.assertEqual(joined(HOUSE, (), CELLS, ((), ((ON_A, (1, 3)),))),
                         ((on(("a",), ("yes", "b", "not", "and")), (1, 3)),))

    def test_one_to_four_cells(self):
        maker = Maker(100)
        seen = []
        for turn in range(40):
            house = maker.house(2, 5)
            cells = made_cells(maker, house)
            bids = maker.bids(house, 2)
            lists = tuple(maker.bids(narrowed(house, cell), maker.dice.randint(0, 2)) for cell in cells)
            told = joined(house, bids, cells, lists)
            later = [(cell, bid) for cell, row in zip(cells, lists) for bid in row]
            self.assertEqual(told, bids + tuple((called_off(bet, cell), price) for cell, (bet, price) in later))
            self.assertIs(are_bids(house, told), True)
            seen.append(len(cells))
        self.assertEqual(set(seen), {1, 2, 3, 4})

    def test_twelve_and_thirteen(self):
        bid = (ON_A, (0, 1))
        for today, first, then in ((12, 0, 0), (0, 12, 0), (0, 0, 12), (4, 4, 4), (11, 0, 1)):
            handed = (HOUSE, (bid,) * today, CELLS, ((bid,) * first, (bid,) * then))
            self.assertEqual(len(joined(*handed)), 12)
            self.assertEqual(judged_days(*handed)[0], "fair")
        for today, first, then in ((12, 1, 0), (12, 0, 1), (0, 12, 1), (1, 0, 12), (5, 4, 4), (12, 12, 12)):
            handed = (HOUSE, (bid,) * today, CELLS, ((bid,) * first, (bid,) * then))
            check_refused(self, TooMany, joined, *handed)
            check_refused(self, TooMany, judged_days, *handed)

    def test_too_long(self):
        # The given, the cell and one word more: 40 words are not too many.
        for words in (1, 36, 37, 38, 39, 40):
            bid = (on(("a",), always(words)), (0, 1))
            for lists, cell in ((((bid,), ()), CELLS[0]), (((), (bid,)), CELLS[1])):
                handed = (HOUSE, BIDS, CELLS, lists)
                if words + len(cell) + 1 > 40:
                    check_refused(self, TooLong, joined, *handed)
                    check_refused(self, TooLong, judged_days, *handed)
                else:
                    self.assertEqual(joined(*handed)[1], (on(("a",), always(words) + cell + ("and",)), (0, 1)))
                    self.assertEqual(judged_days(*handed)[0], "fair")

    def test_too_long_comes_first(self):
        longest = (on(("a",), always(39)), (0, 1))
        bid = (ON_A, (0, 1))
        for lists in (((longest,), (bid,) * 12), ((bid,) * 12, (longest,)), ((bid,) * 6, (bid,) * 6 + (longest,))):
            check_refused(self, TooLong, joined, HOUSE, (bid,) * 5, CELLS, lists)
            check_refused(self, TooLong, judged_days, HOUSE, (bid,) * 5, CELLS, lists)
        # Today's bids may be as long as they are.
        self.assertEqual(joined(HOUSE, (longest,), CELLS, ((), ())), (longest,))


class TestGainsOver(unittest.TestCase):

    def test_called_off_or_not(self):
        # Worlds 00, 01, 10, 11; today's bid lives but for b, the later ones but for a in their cells.
        bids = ((A_BY_B, (1, 2)),)
        lists = (((on(("b",), ("a",)), (1, 4)),), ((on(("a",), ("a",)), (1, 8)),))
        self.assertEqual(gains_over(HOUSE, bids, CELLS, lists, ((1, 1),), (((1, 1),), ((1, 1),))),
                         (None, (-1, 2), (7, 8), (5, 4)))
        self.assertEqual(gains_over(HOUSE, bids, CELLS, lists, ((0, 1),), (((1, 1),), ((1, 1),))),
                         (None, None, (7, 8), (3, 4)))
        self.assertEqual(gains_over(HOUSE, bids, CELLS, lists, ((1, 1),), (((0, 1),), ((2, 1),))),
                         (None, (-1, 2), (7, 4), (1, 2)))
        self.assertEqual(gains_over(HOUSE, bids, CELLS, lists, ((0, 1),), (((0, 1),), ((0, 1),))), (None,) * 4)
        self.assertEqual(gains_over(HOUSE, (), CELLS, ((), ()), (), ((), ())), (None,) * 4)

    def test_a_later_bid_counts_in_its_cell_alone(self):
        lists = (((ON_A, (0, 1)),), ())
        self.assertEqual(gains_over(HOUSE, (), CELLS, lists, (), (((3, 1),), ())), (None, (0, 1), None, (3, 1)))
        self.assertEqual(gains_over(HOUSE, (), CELLS[::-1], lists, (), (((3, 1),), ())), ((0, 1), None, (3, 1), None))

    def test_both_gains_come_to_nothing(self):
        lists = (((turned(ON_A), (-1, 2)),), ())
        self.assertEqual(gains_over(HOUSE, BIDS, CELLS, lists, ((1, 1),), (((1, 1),), ())),
                         ((-1, 2), (0, 1), (1, 2), (0, 1)))

    def test_second_ways(self):
        maker = Maker(101)
        for turn in range(50):
            house = maker.house(2, 5)
            cells = made_cells(maker, house)
            bids = maker.bids(house, 2)
            lists = tuple(maker.bids(narrowed(house, cell), maker.dice.randint(0, 2)) for cell in cells)
            stakes, later = maker.stakes(2), tuple(maker.stakes(len(row)) for row in lists)
            told = gains_over(house, bids, cells, lists, stakes, later)
            due = days_gained(house, bids, cells, lists, stakes, later)
            self.assertEqual(told, tuple(None if gain is None else pair_of(gain) for gain in due))
            flat = stakes + tuple(stake for row in later for stake in row)
            self.assertEqual(told, gains_of(house, joined(house, bids, cells, lists), flat))

    def test_asked_again(self):
        maker = Maker(102)
        calls = []
        for turn in range(6):
            house = maker.house(2, 4)
            cells = made_cells(maker, house)
            bids = maker.bids(house, 2)
            lists = tuple(maker.bids(narrowed(house, cell), 1) for cell in cells)
            calls.append((house, bids, cells, lists, maker.stakes(2), tuple(maker.stakes(1) for cell in cells)))
        check_steady(self, gains_over, calls)
        check_steady(self, joined, [call[:4] for call in calls])


class TestRightDays(unittest.TestCase):

    def check(self, thing, due, bids=BIDS, lists=LISTS, cells=CELLS, house=HOUSE):
        self.assertIs(right_days(house, bids, cells, lists, thing), due)
        self.assertIs(days_right(house, bids, cells, lists, thing), due)

    def test_right_and_wrong(self):
        self.check(DAYS, True)
        self.check((((5, 2),), (((5, 2),), ((5, 2),))), True)
        self.check((((1, 1),), (((1, 1),), ((0, 1),))), False)
        self.check((((1, 1),), (((0, 1),), ((1, 1),))), False)
        self.check((((0, 1),), (((1, 1),), ((1, 1),))), False)

    def test_a_gain_of_just_nothing_at_one_world(self):
        for price, due in (((-1, 2), False), (shifted((-1, 2), Fraction(1, GREAT)), True)):
            self.check(DAYS, due, lists=(LISTS[0], ((turned(ON_A), price),)))
            self.check(DAYS, due, lists=(((turned(ON_A), price),), LISTS[1]))
        # At the world 11 alone it comes to nothing.
        bids = ((A_BY_B, (1, 2)),)
        lists = (((on(("a", "not"), ("a",)), (1, 2)),), ())
        self.check((((1, 1),), (((1, 1),), ())), False, bids, lists)
        lists = (((on(("a", "not"), ("a",)), shifted((1, 2), Fraction(1, GREAT))),), ())
        self.check((((1, 1),), (((1, 1),), ())), True, bids, lists)

    def test_rows_one_short_or_long(self):
        stakes, later = DAYS
        for thing in ((stakes,), DAYS + ((),), (stakes, later[:1]), (stakes, later + (((1, 1),),)), ((), later),
                      (stakes * 2, later), (stakes, (later[0], ())), (stakes, (later[0] * 2, later[1])),
                      (stakes, (later[0], later[1] * 2)), (stakes, ()), (stakes, later + ((),)), (later, stakes)):
            self.check(thing, False)

    def test_stakes_that_are_none(self):
        stakes, later = DAYS
        for wrong in ((-1, 1), (2, 2), (1, 0), (True, 1), [1, 1], 1, None, "1", (), (1, 1, 1), (0, 2)):
            self.check(((wrong,), later), False)
            self.check((stakes, ((wrong,), later[1])), False)
            self.check((stakes, (later[0], (wrong,))), False)
        for thing in (list(DAYS), (list(stakes), later), (stakes, list(later)), (stakes, (list(later[0]), later[1])),
                      None, True, 0, "", {}, ()):
            self.check(thing, False)

    def test_called_off_everywhere(self):
        self.check((((0, 1),), (((0, 1),), ((0, 1),))), False)
        self.check(((), ((), ())), False, (), ((), ()))

    def test_one_day_alone(self):
        self.check((((1, 1),), ((), ())), True, ((ON_A, (2, 1)),), ((), ()))
        self.check(((), (((1, 1),), ())), True, (), (((ON_A, (2, 1)),), ()))
        self.check(((), (((1, 1),), ((0, 1),))), True, (), (((ON_A, (2, 1)),), ((ON_A, (0, 1)),)))
        self.check((((1, 1),), (((1, 1),),)), True, ((ON_A, (1, 2)),), (((turned(ON_A), (-1, 3)),),), (("yes",),))

    def test_more_than_twelve_together(self):
        for many in (6, 12):
            days = (((1, 1),) * many, (((1, 1),) * many,) * 2)
            self.check(days, True, BIDS * many, (LISTS[0] * many, LISTS[1] * many))

    def test_four_cells(self):
        cells = parts_of(("a",), ("b",))[3]
        lists = tuple(((ON_A, (2 if at < 2 else 1, 1)),) for at in range(4))
        self.check(((), (((1, 1),),) * 4), True, (), lists, cells)
        lists = lists[:3] + (((ON_A, (0, 1)),),)
        self.check(((), (((1, 1),),) * 4), False, (), lists, cells)
        self.check(((), (((1, 1),),) * 3 + (((0, 1),),)), True, (), lists, cells)

    def test_another_order_of_cells(self):
        bids = ((ON_A, (1, 2)), (ON_B, (0, 1)))
        lists = (((on(("yes",)), (2, 1)),), ((on(("yes",)), (1, 1)),))
        days = (((1, 1), (0, 1)), (((1, 1),), ((1, 1),)))
        self.check(days, False, bids, lists)
        lists = (((on(("yes",)), (3, 1)),), ((on(("yes",)), (2, 1)),))
        self.check(days, True, bids, lists)
        days = (((1, 1), (3, 2)), (((1, 1),), ((1, 1),)))
        self.check(days, False, bids, lists)
        days = (((1, 1), (1, 1)), (((1, 1),), ((1, 1),)))
        self.check(days, True, bids, lists)
        self.check(days, False, bids, lists[::-1])
        self.check(days, True, bids, lists[::-1], CELLS[::-1])

    def test_anything(self):
        maker = Maker(103)
        cases = [(HOUSE, BIDS, CELLS, LISTS, DAYS), (HOUSE, (), (("yes",),), (((ON_A, (2, 1)),),), ((), (((1, 1),),))),
                 (HOUSE, (), CELLS, ((), ()), ((), ((), ())))]
        for house, bids, cells, lists, days in cases + cases[:1]:
            others = variants(days)
            others += [(maker.stakes(len(bids)), tuple(maker.stakes(len(row)) for row in lists)) for turn in range(20)]
            check_checker(self, lambda thing: right_days(house, bids, cells, lists, thing),
                          lambda thing: days_right(house, bids, cells, lists, thing), others)


class TestJudgedDays(unittest.TestCase):

    def check(self, house, bids, cells, lists):
        told = judged_days(house, bids, cells, lists)
        self.assertEqual((type(told), len(told)), (tuple, 2))
        kind, what = told
        row = joined(house, bids, cells, lists)
        self.assertEqual(kind, judged(house, row)[0])
        if kind == "fair":
            self.assertIs(right_layers(house, row, what), True)
            self.assertTrue(layers_right(house, row, what))
        else:
            self.assertEqual(kind, "loss")
            self.assertIs(right_days(house, bids, cells, lists, what), True)
            self.assertTrue(days_right(house, bids, cells, lists, what))
        return kind

    def test_unfair_together_alone(self):
        self.assertEqual(self.check(HOUSE, BIDS, CELLS, LISTS), "loss")
        self.assertEqual(self.check(HOUSE, BIDS, CELLS, (LISTS[0], ())), "fair")
        self.assertEqual(self.check(HOUSE, BIDS, CELLS, ((), LISTS[1])), "fair")
        self.assertEqual(self.check(HOUSE, (), CELLS, LISTS), "fair")
        self.assertEqual(self.check(HOUSE, BIDS, CELLS, (LISTS[0], ((turned(ON_A), (-1, 2)),))), "fair")

    def test_no_bids(self):
        self.assertEqual(judged_days(HOUSE, (), CELLS, ((), ())), ("fair", ()))
        self.assertEqual(judged_days(HOUSE, (), (("yes",),), ((),)), ("fair", ()))

    def test_unfair_on_one_day(self):
        self.assertEqual(self.check(HOUSE, ((ON_A, (2, 1)),), CELLS, ((), LISTS[1])), "loss")
        self.assertEqual(self.check(HOUSE, (), CELLS, (LISTS[0], ((ON_A, (2, 1)),))), "loss")
        self.assertEqual(self.check(HOUSE, (), CELLS, (((ON_A, (2, 1)), (ON_B, (1, 2))), LISTS[1])), "loss")

    def test_a_cell_that_weighed_nothing(self):
        bids = ((on(("b", "not")), (1, 1)), (A_BY_B, (1, 2)))
        self.assertEqual(self.check(HOUSE, bids, CELLS, (((turned(ON_A), (-1, 2)),), ())), "fair")
        self.assertEqual(self.check(HOUSE, bids, CELLS, (((turned(ON_A), (-1, 3)),), ())), "loss")
        self.assertEqual(self.check(HOUSE, bids[:1], CELLS, (((turned(ON_A), (-1, 3)),), ())), "fair")

    def test_whatever_lists(self):
        maker = Maker(104)
        kinds = []
        for turn in range(80):
            house = maker.house(2, 5)
            cells = made_cells(maker, house)
            bids = maker.borne(house, 3)[1]
            lists = tuple(maker.borne(narrowed(house, cell), 2)[1] for cell in cells)
            if turn % 2:
                # Tomorrow one of today's bids is sold for less, whatever comes.
                bet, price = bids[0]
                less = (turned(bet), shifted(turned_about(price), Fraction(1, 9)))
                lists = tuple(row[:1] + ((less,) if any(truth(house[0], bet[1], world) for world in
                                                        worlds(narrowed(house, cell))) else ())
                              for cell, row in zip(cells, lists))
            kinds.append(self.check(house, bids, cells, lists))
        self.assertGreater(kinds.count("fair"), 10)
        self.assertGreater(kinds.count("loss"), 30)

    def test_what_is_carried_on_is_fair(self):
        maker = Maker(105)
        for turn in range(25):
            house = maker.house(2, 5)
            cells = made_cells(maker, house)
            bids = maker.borne(house, 2)[1]
            lists = tuple(carried(house, bids, cell)[1] for cell in cells)
            self.assertEqual(self.check(house, bids, cells, lists), "fair")

    def test_six_letters_and_twelve_bids(self):
        maker = Maker(106)
        cells = parts_of(("a",), ("b", "c", "or"))[3]
        bids = maker.borne(SIX, 4)[1]
        lists = tuple(maker.borne(narrowed(SIX, cell), 2)[1] for cell in cells)
        self.assertEqual(len(joined(SIX, bids, cells, lists)), 12)
        self.check(SIX, bids, cells, lists)

    def test_asked_again(self):
        check_steady(self, judged_days, [(HOUSE, BIDS, CELLS, LISTS), (HOUSE, BIDS, CELLS, (LISTS[0], ())),
                                         (HOUSE, (), CELLS, LISTS), (("ab", (("a",),)), BIDS, CELLS, LISTS)])


if __name__ == "__main__":
    unittest.main()
