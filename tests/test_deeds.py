"""Point 30: each of the eight deeds, done and refused."""

import itertools
import unittest
from fractions import Fraction

from betstall import errors
from betstall.bets import turned
from betstall.deeds import done
from betstall.judging import judged
from betstall.stands import first_stand, is_stand, worst_of

from tests.halls import HallMaker, LENGTHS, YES, asked, on, second_done, stand_right
from tests.helpers import GREAT, always, check_refused, check_steady, pair_of, shifted, things

HOUSE = ("ab", ())
NO = ("no",)
ON_A = on(("a",))
ON_B = on(("b",))
A_BY_B = on(("a",), ("b",))
TRIFLE = Fraction(1, 10 ** 9)
LISTS = (((ON_A, (1, 3)), (A_BY_B, (1, 2))), (), ())
TICKETS = ((0, 0, 1, ON_A, (1, 2), (2, 1)), (3, 1, 2, A_BY_B, (1, 3), (3, 2)), (4, 0, 1, ON_A, (1, 2), (1, 1)))
STAND = (HOUSE, ((9, 1), (9, 1), (9, 1)), TICKETS, LISTS, 6)
UNFAIR = ((ON_A, (2, 1)),)
# What stands in no place of a holder, a number or a place.
NO_NUMBERS = (True, False, None, -1, 99, GREAT, "0", "", (0,), [0], (0, 1), {}, [], ())
NO_FRACTIONS = (None, True, 1, "1", (1, 0), (2, 2), (1, -1), (True, 1), (1, True), [1, 2], (0, 2), (1,), (1, 2, 3), {})
NO_STAKES = NO_FRACTIONS + ((0, 1), (-1, 1))


def with_part(at, part, stand=STAND):
    return stand[:at] + (part,) + stand[at + 1:]


def full(stand=STAND):
    """The stand with twelve tickets."""
    tickets = stand[2]
    more = tuple((6 + at, 0, 1, ON_B, (1, 2), (1, 1)) for at in range(12 - len(tickets)))
    return (stand[0], ((50, 1),) * len(stand[1]), tickets + more, stand[3], 6 + len(more))


class DeedCase(unittest.TestCase):

    def check(self, stand, deed, told, **parts):
        """The deed is done, tells this, and changes these parts of the stand alone."""
        names = ("house", "purses", "tickets", "lists", "many")
        due = tuple(parts.get(name, part) for name, part in zip(names, stand))
        self.assertTrue(stand_right(stand))
        self.assertEqual(repr(done(stand, deed)), repr((told, due)))
        self.assertEqual(repr(second_done(stand, deed)), repr((told, due)))
        self.assertIs(is_stand(due), True)

    def refuse(self, name, stand, deed):
        check_refused(self, getattr(errors, name), done, stand, deed)
        self.assertEqual(second_done(stand, deed), name)

    def check_order(self, names, build):
        """Of any of the refusals that are due at once the first one is told."""
        for due in itertools.product((True, False), repeat=len(names)):
            made = build(*due)
            if made is not None:
                stand, deed = made
                first = [name for name, is_due in zip(names, due) if is_due]
                self.assertTrue(stand_right(stand))
                if first:
                    self.refuse(first[0], stand, deed)
                else:
                    self.assertIsInstance(asked(stand, deed), tuple)


class TestNoDeed(DeedCase):

    def test_no_deeds(self):
        for deed in things():
            self.refuse("NoDeed", STAND, deed)

    def test_words_and_parts(self):
        for word, many in LENGTHS.items():
            for length in range(0, 9):
                deed = (word,) + (0,) * length
                if length + 1 == many:
                    self.assertNotEqual(asked(STAND, deed), "NoDeed")
                else:
                    self.refuse("NoDeed", STAND, deed)
            right = (word,) + (0,) * (many - 1)
            for deed in (list(right), (word.upper(),) + right[1:], (word + " ",) + right[1:], right[1:], word,
                         ((word,),) + right[1:], (None,) + right[1:], ([word],) + right[1:], ({},) + right[1:],
                         (right,), dict(enumerate(right)), ("back",) + right[1:], (word[:-1],) + right[1:]):
                self.refuse("NoDeed", STAND, deed)

    def test_anything_as_a_part(self):
        rights = (("deal", 0, 1, ON_A, (1, 2), (1, 1)), ("split", 0, (1, 2)), ("hand", 0, 0, 2, (1, 2)), ("net", 0, 4),
                  ("clear", 0), ("post", 0, LISTS[0]), ("sell", 1, 0, 0, (1, 1)), ("hear", ("a",)))
        for deed in rights:
            for at in range(1, len(deed)):
                for thing in things():
                    changed = deed[:at] + (thing,) + deed[at + 1:]
                    self.assertEqual(repr(asked(STAND, changed)), repr(second_done(STAND, changed)))


class TestDeal(DeedCase):

    def test_done(self):
        new = (6, 2, 1, A_BY_B, (1, 4), (2, 3))
        self.check(STAND, ("deal", 2, 1, A_BY_B, (1, 4), (2, 3)), 6, tickets=TICKETS + (new,), many=7)
        start = first_stand(HOUSE, ((1, 1), (1, 1)))
        self.check(start, ("deal", 0, 1, ON_A, (1, 1), (1, 1)), 0, tickets=((0, 0, 1, ON_A, (1, 1), (1, 1)),), many=1)

    def test_refused(self):
        for wrong in NO_NUMBERS + (3,):
            self.refuse("NoHolder", STAND, ("deal", wrong, 2, ON_A, (1, 2), (1, 1)))
            self.refuse("NoHolder", STAND, ("deal", 2, wrong, ON_A, (1, 2), (1, 1)))
        for holder in range(3):
            self.refuse("NoHolder", STAND, ("deal", holder, holder, ON_A, (1, 2), (1, 1)))
        never = ("a", "a", "not", "and")
        for wrong in (None, (), ON_A[0], list(ON_A), on(("c",)), on(("a",), NO), on(("a",), never), "a"):
            self.refuse("NoBet", STAND, ("deal", 0, 1, wrong, (1, 2), (1, 1)))
        for wrong in NO_FRACTIONS:
            self.refuse("NoStake", STAND, ("deal", 0, 1, ON_A, wrong, (1, 1)))
        for wrong in NO_STAKES:
            self.refuse("NoStake", STAND, ("deal", 0, 1, ON_A, (1, 2), wrong))

    def test_a_bet_that_the_news_have_killed(self):
        stand = first_stand(("ab", (("b", "not"),)), ((1, 1), (1, 1)))
        self.refuse("NoBet", stand, ("deal", 0, 1, A_BY_B, (1, 2), (1, 1)))

    def test_any_price(self):
        for price in ((0, 1), (-1, 2), (5, 1), (1, GREAT)):
            self.assertEqual(done(STAND, ("deal", 0, 1, ON_A, price, (1, 2)))[0], 6)

    def test_just_covered_and_a_trifle_beyond(self):
        start = first_stand(HOUSE, ((1, 1), (2, 1)))
        # The long loses the stake times 1/2 at worst, the short twice that.
        bet = on(("a",), YES, (3, 2))
        self.check(start, ("deal", 0, 1, bet, (1, 2), (2, 1)), 0, tickets=((0, 0, 1, bet, (1, 2), (2, 1)),), many=1)
        self.refuse("NoCover", start, ("deal", 0, 1, bet, (1, 2), shifted((2, 1), TRIFLE)))
        self.refuse("NoCover", start, ("deal", 1, 0, bet, (1, 2), shifted((1, 1), TRIFLE)))
        self.assertEqual(done(start, ("deal", 1, 0, bet, (1, 2), (1, 1)))[0], 0)
        # What one ticket may bring covers another only at the same world.
        stand = done(start, ("deal", 0, 1, bet, (1, 2), (2, 1)))[1]
        self.assertEqual(worst_of(stand, 0), ((0, 1), "00"))
        self.refuse("NoCover", stand, ("deal", 0, 1, ON_B, (1, 2), pair_of(TRIFLE)))
        self.assertEqual(done(stand, ("deal", 1, 0, bet, (1, 2), (3, 1)))[0], 1)

    def test_twelve_stand(self):
        self.refuse("TooMany", full(), ("deal", 0, 1, ON_A, (1, 2), (1, 1)))
        eleven = with_part(2, full()[2][:11], full())
        self.assertEqual(done(eleven, ("deal", 0, 1, ON_A, (1, 2), (1, 1)))[0], 15)

    def test_the_first_that_is_due(self):
        def build(holder, bet, stake, many, cover):
            due = pair_of(Fraction(10 ** 6 if cover else 1))
            return (full() if many else STAND,
                    ("deal", 0, 0 if holder else 1, None if bet else ON_A, (2, 2) if stake else (1, 2), due))
        self.check_order(("NoHolder", "NoBet", "NoStake", "TooMany", "NoCover"), build)


class TestSplit(DeedCase):

    def test_done(self):
        first, second, third = TICKETS
        self.check(STAND, ("split", 3, (1, 4)), 6, many=7,
                   tickets=(first, second[:5] + ((5, 4),), third, (6, 1, 2, A_BY_B, (1, 3), (1, 4))))
        self.check(STAND, ("split", 0, (3, 2)), 6, many=7,
                   tickets=(first[:5] + ((1, 2),), second, third, (6, 0, 1, ON_A, (1, 2), (3, 2))))

    def test_refused(self):
        for wrong in NO_NUMBERS + (1, 2, 5, 6):
            self.refuse("NoTicket", STAND, ("split", wrong, (1, 4)))
        for wrong in NO_STAKES + ((3, 2), (2, 1), shifted((3, 2), TRIFLE)):
            self.refuse("NoStake", STAND, ("split", 3, wrong))
        self.assertEqual(done(STAND, ("split", 3, shifted((3, 2), -TRIFLE)))[0], 6)
        self.refuse("TooMany", full(), ("split", 3, (1, 4)))

    def test_a_truth_is_no_number(self):
        stand = with_part(2, ((1, 0, 1, ON_A, (1, 2), (2, 1)),))
        self.assertEqual(done(stand, ("split", 1, (1, 4)))[0], 6)
        self.refuse("NoTicket", stand, ("split", True, (1, 4)))

    def test_the_first_that_is_due(self):
        def build(ticket, stake, many):
            return full() if many else STAND, ("split", 5 if ticket else 3, (3, 2) if stake else (1, 2))
        self.check_order(("NoTicket", "NoStake", "TooMany"), build)


class TestHand(DeedCase):

    def test_done(self):
        first, second, third = TICKETS
        self.check(STAND, ("hand", 0, 0, 2, (1, 3)), None, purses=((26, 3), (9, 1), (28, 3)),
                   tickets=((0, 2, 1, ON_A, (1, 2), (2, 1)), second, third))
        self.check(STAND, ("hand", 0, 1, 2, (-1, 3)), None, purses=((9, 1), (28, 3), (26, 3)),
                   tickets=((0, 0, 2, ON_A, (1, 2), (2, 1)), second, third))
        self.check(STAND, ("hand", 3, 1, 0, (0, 1)), None, tickets=(first, (3, 0) + second[2:], third))

    def test_to_its_other_side(self):
        first, second, third = TICKETS
        self.check(STAND, ("hand", 3, 1, 2, (2, 1)), None, purses=((9, 1), (7, 1), (11, 1)), tickets=(first, third))
        self.check(STAND, ("hand", 3, 2, 1, (-2, 1)), None, purses=((9, 1), (7, 1), (11, 1)), tickets=(first, third))
        self.check(STAND, ("hand", 4, 0, 1, (0, 1)), None, tickets=(first, second))

    def test_refused(self):
        for wrong in NO_NUMBERS + (1, 2, 5, 6):
            self.refuse("NoTicket", STAND, ("hand", wrong, 0, 2, (0, 1)))
        for wrong in NO_NUMBERS + (2,):
            self.refuse("NoTicket", STAND, ("hand", 0, wrong, 2, (0, 1)))
        self.refuse("NoTicket", STAND, ("hand", 3, 0, 2, (0, 1)))
        for wrong in NO_NUMBERS + (0, 3):
            self.refuse("NoHolder", STAND, ("hand", 0, 0, wrong, (0, 1)))
        self.refuse("NoHolder", STAND, ("hand", 0, 1, 1, (0, 1)))
        self.refuse("NoHolder", STAND, ("hand", 0, 0, True, (0, 1)))
        for wrong in NO_FRACTIONS:
            self.refuse("NoStake", STAND, ("hand", 0, 0, 2, wrong))

    def test_just_covered_and_a_trifle_beyond(self):
        stand = (HOUSE, ((1, 1), (1, 1), (1, 1)), TICKETS[:1], ((), (), ()), 1)
        # Each side loses 1 at worst. Who hands it on may pay the whole purse, and the other one needs 1.
        self.check(stand, ("hand", 0, 0, 2, (1, 1)), None, purses=((0, 1), (1, 1), (2, 1)),
                   tickets=((0, 2) + TICKETS[0][2:],))
        self.refuse("NoCover", stand, ("hand", 0, 0, 2, shifted((1, 1), TRIFLE)))
        self.check(stand, ("hand", 0, 0, 2, (0, 1)), None, tickets=((0, 2) + TICKETS[0][2:],))
        self.refuse("NoCover", stand, ("hand", 0, 0, 2, pair_of(-TRIFLE)))
        # To its other side the fee alone is paid.
        self.check(stand, ("hand", 0, 0, 1, (-1, 1)), None, purses=((2, 1), (0, 1), (1, 1)), tickets=())
        self.refuse("NoCover", stand, ("hand", 0, 0, 1, shifted((-1, 1), -TRIFLE)))
        self.refuse("NoCover", stand, ("hand", 0, 0, 1, shifted((1, 1), TRIFLE)))

    def test_a_ticket_that_covered_the_purse(self):
        sure = ((0, 0, 1, on(YES, amount=(3, 1)), (1, 1), (1, 1)),)
        stand = (HOUSE, ((-2, 1), (2, 1), (5, 1)), sure, ((), (), ()), 1)
        self.refuse("NoCover", stand, ("hand", 0, 0, 2, (0, 1)))
        self.refuse("NoCover", stand, ("hand", 0, 0, 2, shifted((-2, 1), TRIFLE)))
        self.check(stand, ("hand", 0, 0, 2, (-2, 1)), None, purses=((0, 1), (2, 1), (3, 1)),
                   tickets=((0, 2) + sure[0][2:],))
        self.check(stand, ("hand", 0, 0, 1, (-2, 1)), None, purses=((0, 1), (0, 1), (5, 1)), tickets=())

    def test_the_first_that_is_due(self):
        def build(ticket, holder, stake, cover):
            fee = (2, 2) if stake else (10 ** 6, 1) if cover else (0, 1)
            return STAND, ("hand", 5 if ticket else 0, 0, 0 if holder else 2, fee)
        self.check_order(("NoTicket", "NoHolder", "NoStake", "NoCover"), lambda *due: None if due[2] and due[3]
                         else build(*due))

        def other(ticket, holder):
            return STAND, ("hand", 0, 2 if ticket else 1, 3 if holder else 0, (0, 1))
        self.check_order(("NoTicket", "NoHolder"), other)


class TestNet(DeedCase):

    def build(self, sides, other_sides, stake, other_stake):
        tickets = ((2,) + sides + (ON_A, (1, 2), stake), TICKETS[1], (7,) + other_sides + (ON_A, (1, 2), other_stake))
        return (HOUSE, ((9, 1),) * 3, tickets, LISTS, 8)

    def both_ways(self, stand, told, **parts):
        self.check(stand, ("net", 2, 7), told, **parts)
        self.check(stand, ("net", 7, 2), told, **parts)

    def test_one_long(self):
        stand = self.build((0, 1), (0, 1), (1, 2), (1, 3))
        self.both_ways(stand, 2, tickets=((2, 0, 1, ON_A, (1, 2), (5, 6)), TICKETS[1]))

    def test_the_other_way_round(self):
        stand = self.build((0, 1), (1, 0), (2, 1), (1, 2))
        self.both_ways(stand, 2, tickets=((2, 0, 1, ON_A, (1, 2), (3, 2)), TICKETS[1]))
        stand = self.build((0, 1), (1, 0), (1, 2), (2, 1))
        self.both_ways(stand, 2, tickets=((2, 1, 0, ON_A, (1, 2), (3, 2)), TICKETS[1]))
        stand = self.build((1, 0), (0, 1), (1, 2), (2, 1))
        self.both_ways(stand, 2, tickets=((2, 0, 1, ON_A, (1, 2), (3, 2)), TICKETS[1]))

    def test_of_like_stakes(self):
        self.both_ways(self.build((0, 1), (1, 0), (2, 3), (2, 3)), None, tickets=(TICKETS[1],))
        self.both_ways(self.build((0, 1), (0, 1), (2, 3), (2, 3)), 2,
                       tickets=((2, 0, 1, ON_A, (1, 2), (4, 3)), TICKETS[1]))

    def test_its_place(self):
        tickets = tuple((at, 0, 1, ON_A, (1, 2), (1, 1)) for at in range(4))
        stand = with_part(2, tickets)
        self.check(stand, ("net", 3, 1), 1, tickets=(tickets[0], tickets[1][:5] + ((2, 1),), tickets[2]))

    def test_refused(self):
        for wrong in NO_NUMBERS + (1, 2, 5, 6):
            self.refuse("NoTicket", STAND, ("net", wrong, 4))
            self.refuse("NoTicket", STAND, ("net", 4, wrong))
        for one in (0, 3, 4):
            self.refuse("NoTicket", STAND, ("net", one, one))
        for one in (0, 4):
            self.refuse("NotAlike", STAND, ("net", one, 3))
            self.refuse("NotAlike", STAND, ("net", 3, one))

    def test_not_alike_in_one_thing(self):
        alike = self.build((0, 1), (0, 1), (1, 1), (1, 1))
        self.assertEqual(done(alike, ("net", 2, 7))[0], 2)
        for at, part in ((1, 2), (2, 2), (3, ON_B), (3, on(("a", "not", "not"))), (3, on(("a",), ("no", "not"))),
                         (4, (1, 3))):
            last = alike[2][2]
            stand = with_part(2, alike[2][:2] + (last[:at] + (part,) + last[at + 1:],), alike)
            self.refuse("NotAlike", stand, ("net", 2, 7))
            self.refuse("NotAlike", stand, ("net", 7, 2))


class TestClear(DeedCase):

    def build(self, rows, holders=4, more=0):
        tickets = tuple((at, long, short, ON_A, (1, 2), stake) for at, (long, short, stake) in enumerate(rows))
        tickets += tuple((20 + at, 0, 1, ON_B, (1, 2), (1, 1)) for at in range(more))
        return (HOUSE, ((30, 1),) * holders, tickets, ((),) * holders, 40)

    def rows(self, *rows):
        return tuple((40 + at, long, short, ON_A, (1, 2), stake) for at, (long, short, stake) in enumerate(rows))

    def test_chains(self):
        stand = self.build(((0, 1, (1, 1)), (1, 2, (1, 1)), (2, 3, (1, 1))), more=1)
        for number in range(3):
            self.check(stand, ("clear", number), (40,), tickets=stand[2][3:] + self.rows((0, 3, (1, 1))), many=41)
        stand = self.build(((0, 1, (3, 1)), (1, 2, (1, 2)), (2, 3, (5, 2))))
        self.check(stand, ("clear", 1), (40, 41, 42), many=43,
                   tickets=self.rows((0, 1, (5, 2)), (0, 3, (1, 2)), (2, 3, (2, 1))))

    def test_rings(self):
        stand = self.build(((0, 1, (2, 3)), (1, 2, (2, 3)), (2, 0, (2, 3))), more=2)
        self.check(stand, ("clear", 1), (), tickets=stand[2][3:])
        stand = self.build(((0, 1, (2, 3)), (1, 2, (2, 3)), (2, 0, (1, 1))))
        self.check(stand, ("clear", 1), (40,), tickets=self.rows((2, 0, (1, 3))), many=41)

    def test_one_alone(self):
        stand = self.build(((2, 1, (5, 7)),), more=1)
        self.check(stand, ("clear", 0), (40,), tickets=stand[2][1:] + self.rows((2, 1, (5, 7))), many=41)

    def test_the_least_holders_first(self):
        stand = self.build(((3, 0, (1, 1)), (2, 1, (2, 1))))
        self.check(stand, ("clear", 0), (40, 41, 42), many=43,
                   tickets=self.rows((2, 0, (1, 1)), (2, 1, (1, 1)), (3, 1, (1, 1))))

    def test_others_stay(self):
        stand = self.build(((0, 1, (1, 1)), (1, 0, (1, 1))))
        tickets = stand[2] + ((20, 0, 1, ON_A, (1, 3), (1, 1)), (21, 0, 1, on(("a", "not", "not")), (1, 2), (1, 1)))
        self.check(with_part(2, tickets, stand), ("clear", 1), (), tickets=tickets[2:])

    def test_refused(self):
        for wrong in NO_NUMBERS + (1, 2, 5, 6):
            self.refuse("NoTicket", STAND, ("clear", wrong))

    def test_too_many_behind_it(self):
        # Three tickets become four: twelve may stand, thirteen not.
        rows = ((0, 5, (1, 1)), (1, 4, (2, 1)), (2, 3, (3, 1)))
        for more, due in ((0, 4), (8, 12), (9, None)):
            stand = self.build(rows, 6, more)
            if due is None:
                self.refuse("TooMany", stand, ("clear", 0))
                self.refuse("NoTicket", stand, ("clear", 3))
                self.assertEqual(done(stand, ("clear", 20))[0], (40,))
            else:
                self.assertEqual(done(stand, ("clear", 0)), second_done(stand, ("clear", 0)))
                self.assertEqual(len(done(stand, ("clear", 0))[1][2]), due)


class TestPost(DeedCase):

    def test_done(self):
        bids = ((ON_B, (1, 2)), (A_BY_B, (2, 3)))
        self.check(STAND, ("post", 1, bids), 2, lists=(LISTS[0], bids, ()))
        self.check(STAND, ("post", 0, bids), 2, lists=(bids, (), ()))
        self.check(STAND, ("post", 0, ()), 0, lists=((), (), ()))
        self.check(STAND, ("post", 2, bids[:1]), 1, lists=(LISTS[0], (), bids[:1]))

    def test_six_and_seven(self):
        for many in range(9):
            bids = ((ON_A, (1, 2)),) * many
            if many <= 6:
                self.check(STAND, ("post", 1, bids), many, lists=(LISTS[0], bids, ()))
            else:
                self.refuse("NoBet", STAND, ("post", 1, bids))

    def test_refused(self):
        for wrong in NO_NUMBERS + (3,):
            self.refuse("NoHolder", STAND, ("post", wrong, ()))
        for wrong in (None, [], 0, "", ON_A, (ON_A,), ((ON_A, 1),), ((ON_A, (2, 2)),), ((on(("c",)), (1, 2)),),
                      ((on(("a",), NO), (1, 2)),), [(ON_A, (1, 2))], (ON_A, (1, 2)), ((ON_A, (1, 2)), None)):
            self.refuse("NoBet", STAND, ("post", 1, wrong))
        deep = ((on(("b", "not")), (1, 1)), (A_BY_B, (2, 3)), (turned(A_BY_B), (-1, 2)))
        for bids in (UNFAIR, deep):
            self.assertEqual(judged(HOUSE, bids)[0], "loss")
            self.refuse("Unfair", STAND, ("post", 1, bids))
        self.assertEqual(done(STAND, ("post", 1, deep[1:2] + deep[:1]))[0], 2)

    def test_over_an_unfair_list(self):
        stand = with_part(3, (UNFAIR, (), ()))
        self.check(stand, ("post", 0, LISTS[0]), 2, lists=LISTS)
        self.check(stand, ("post", 1, LISTS[0]), 2, lists=(UNFAIR, LISTS[0], ()))

    def test_the_first_that_is_due(self):
        def build(holder, bet, unfair):
            bids = UNFAIR if unfair else LISTS[0]
            return STAND, ("post", 3 if holder else 0, bids * 7 if bet else bids)
        self.check_order(("NoHolder", "NoBet", "Unfair"), build)


class TestSell(DeedCase):

    def test_done(self):
        self.check(STAND, ("sell", 2, 0, 1, (3, 4)), 6, tickets=TICKETS + ((6, 0, 2, A_BY_B, (1, 2), (3, 4)),), many=7)
        self.check(STAND, ("sell", 1, 0, 0, (1, 1)), 6, tickets=TICKETS + ((6, 0, 1, ON_A, (1, 3), (1, 1)),), many=7)

    def test_refused(self):
        for wrong in NO_NUMBERS + (3, 0):
            self.refuse("NoHolder", STAND, ("sell", wrong, 0, 0, (1, 1)))
        for wrong in NO_NUMBERS + (3, 2):
            self.refuse("NoHolder", STAND, ("sell", 2, wrong, 0, (1, 1)))
        for wrong in NO_NUMBERS + (2,):
            self.refuse("NoBet", STAND, ("sell", 1, 0, wrong, (1, 1)))
        self.refuse("NoBet", STAND, ("sell", 0, 1, 0, (1, 1)))
        for wrong in NO_STAKES:
            self.refuse("NoStake", STAND, ("sell", 1, 0, 0, wrong))
        self.refuse("TooMany", full(), ("sell", 1, 0, 0, (1, 1)))

    def test_just_covered_and_a_trifle_beyond(self):
        stand = with_part(3, (LISTS[0], (), ()), (HOUSE, ((1, 1), (2, 1), (0, 1)), (), LISTS, 0))
        # The holder pays 1/3 at worst, the seller 2/3.
        self.check(stand, ("sell", 1, 0, 0, (3, 1)), 0, tickets=((0, 0, 1, ON_A, (1, 3), (3, 1)),), many=1)
        self.refuse("NoCover", stand, ("sell", 1, 0, 0, shifted((3, 1), TRIFLE)))
        self.refuse("NoCover", stand, ("sell", 2, 0, 0, pair_of(TRIFLE)))

    def test_the_first_that_is_due(self):
        def build(holder, bet, stake, many, cover):
            due = (0, 1) if stake else (10 ** 6, 1) if cover else (1, 1)
            return (full() if many else STAND, ("sell", 0 if holder else 1, 0, 2 if bet else 0, due))
        self.check_order(("NoHolder", "NoBet", "NoStake", "TooMany", "NoCover"),
                         lambda *due: None if due[2] and due[4] else build(*due))


class TestHear(DeedCase):

    def test_some_tickets_are_paid(self):
        # Behind a the first and the last bring 1 and 1/2; the second still hangs on b.
        self.check(STAND, ("hear", ("a",)), (0, 4), house=("ab", (("a",),)), tickets=TICKETS[1:2],
                   purses=((21, 2), (15, 2), (9, 1)), lists=(((ON_A, (1, 1)), (A_BY_B, (1, 1))), (), ()))

    def test_all_are_paid_or_called_off(self):
        self.check(STAND, ("hear", ("a", "not", "b", "not", "and")), (0, 3, 4), tickets=(),
                   house=("ab", (("a", "not", "b", "not", "and"),)), purses=((15, 2), (21, 2), (9, 1)),
                   lists=(((ON_A, (0, 1)),), (), ()))

    def test_called_off(self):
        self.check(STAND, ("hear", ("b", "not")), (3,), house=("ab", (("b", "not"),)),
                   tickets=(TICKETS[0], TICKETS[2]), lists=(((ON_A, (0, 1)),), (), ()))

    def test_none_are_paid(self):
        self.check(STAND, ("hear", YES), (), house=("ab", (YES,)))
        self.check(STAND, ("hear", ("b",)), (), house=("ab", (("b",),)),
                   lists=(((ON_A, (1, 2)), (A_BY_B, (1, 2))), (), ()))

    def test_a_ticket_called_off_here_and_worth_nothing_there(self):
        # Behind a it is called off or pays just its price: it brings 0 at both worlds.
        bet = on(("a",), ("b",), (1, 2))
        stand = with_part(3, ((), (), ()), with_part(2, ((0, 0, 1, bet, (1, 2), (2, 1)),)))
        self.check(stand, ("hear", ("a",)), (0,), house=("ab", (("a",),)), tickets=())
        # Else it isn't the same at both.
        self.assertEqual(done(stand, ("hear", ("a", "not")))[0], ())

    def test_a_ticket_that_has_hung_on_nothing(self):
        sure = ((0, 0, 1, on(YES, amount=(3, 1)), (1, 1), (1, 1)),)
        stand = (HOUSE, ((-2, 1), (2, 1)), sure, ((), ()), 1)
        self.check(stand, ("hear", YES), (0,), house=("ab", (YES,)), purses=((0, 1), (0, 1)), tickets=())

    def test_no_saying(self):
        for wrong in (None, (), "a", "yes", ("c",), ["a"], ("a", "b"), ("and",), ("a",) + ("not",) * 40, True, 0, ON_A):
            self.refuse("NoSaying", STAND, ("hear", wrong))

    def test_no_world(self):
        for wrong in (NO, ("a", "a", "not", "and")):
            self.refuse("NoWorld", STAND, ("hear", wrong))
        behind = done(STAND, ("hear", ("a",)))[1]
        self.refuse("NoWorld", behind, ("hear", ("a", "not")))

    def test_eight_rules(self):
        stand = with_part(0, ("ab", (YES,) * 7))
        behind = done(stand, ("hear", YES))[1]
        self.assertEqual(behind[0], ("ab", (YES,) * 8))
        self.refuse("TooMany", behind, ("hear", YES))
        self.refuse("NoWorld", behind, ("hear", NO))

    def test_a_given_too_long(self):
        for words, news, due in ((37, YES, True), (38, YES, True), (39, YES, False), (40, YES, False),
                                 (36, ("b", "not", "not"), True), (37, ("b", "not", "not"), False)):
            bids = ((on(("a",), always(words)), (1, 3)),)
            for holder in range(3):
                stand = with_part(3, ((),) * holder + (bids,) + ((),) * (2 - holder))
                if due:
                    self.assertEqual(done(stand, ("hear", news)), second_done(stand, ("hear", news)))
                else:
                    self.refuse("TooLong", stand, ("hear", news))

    def test_a_long_given_that_may_not_be(self):
        # Given is that b isn't so, in forty words.
        given = ("b", "not", "yes", "and") + ("not",) * 36
        stand = with_part(3, (((on(("a",), given), (1, 3)),), (), ()))
        self.refuse("TooLong", stand, ("hear", ("b", "not")))
        self.check(stand, ("hear", ("b",)), (), house=("ab", (("b",),)), lists=((), (), ()))

    def test_a_price_of_too_many_figures(self):
        for bottom, due in ((10 ** 300 - 1, True), (10 ** 300, False), (10 ** 300 + 1, False)):
            bids = ((ON_A, (1, bottom)),)
            stand = with_part(3, ((), (), bids))
            if due:
                self.check(stand, ("hear", ("b",)), (), house=("ab", (("b",),)), lists=((), (), ((ON_A, (0, 1)),)))
                self.check(stand, ("hear", YES), (), house=("ab", (YES,)))
            else:
                self.refuse("TooLong", stand, ("hear", YES))

    def test_the_first_that_is_due(self):
        longest = ((on(("a",), always(39)), (1, 3)),)

        def build(saying, unfair, world, many, too_long):
            if world and (saying or too_long):
                return None
            lists = (longest if too_long else LISTS[0], (), UNFAIR if unfair else ())
            stand = with_part(3, lists, with_part(0, ("ab", (YES,) * (8 if many else 2))))
            return stand, ("hear", ("a", "b") if saying else NO if world else YES)
        self.check_order(("NoSaying", "Unfair", "NoWorld", "TooMany", "TooLong"), build)

    def test_unfair_behind_a_list_that_is_too_long(self):
        longest = ((on(("a",), always(39)), (1, 3)),)
        for lists in ((longest, UNFAIR, ()), (UNFAIR, longest, ()), (longest, (), UNFAIR)):
            self.refuse("Unfair", with_part(3, lists), ("hear", YES))
            self.refuse("Unfair", with_part(3, lists), ("hear", NO))


class TestWhateverDeeds(DeedCase):

    def test_second_ways(self):
        maker = HallMaker(160)
        seen = {}
        for turn in range(900):
            stand = maker.stand(maker.dice.choice((3, 5, 12)))
            for again in range(3):
                deed = maker.deed(stand)
                told = asked(stand, deed)
                self.assertEqual(repr(told), repr(second_done(stand, deed)), (stand, deed))
                seen.setdefault(deed[0], set()).add(told if isinstance(told, str) else "done")
        for word in LENGTHS:
            self.assertIn("done", seen[word])
        self.assertLessEqual({"NoHolder", "NoBet", "NoStake", "NoCover"}, seen["deal"])
        self.assertLessEqual({"NoTicket", "NoHolder", "NoCover"}, seen["hand"])
        self.assertLessEqual({"NoTicket", "NotAlike"}, seen["net"])

    def test_six_letters(self):
        maker = HallMaker(161)
        for turn in range(4):
            stand = maker.stand(12, 6, 6)
            for word in LENGTHS:
                deed = maker.deed(stand, (word,))
                self.assertEqual(repr(asked(stand, deed)), repr(second_done(stand, deed)))

    def test_asked_again(self):
        maker = HallMaker(162)
        calls = []
        for turn in range(40):
            stand = maker.stand()
            calls.append((stand, maker.deed(stand)))
        calls = calls + [(STAND, ("hear", ("a",))), (STAND, ("post", 1, UNFAIR)), (STAND, ["deal", 0])]
        check_steady(self, asked, calls)


if __name__ == "__main__":
    unittest.main()
