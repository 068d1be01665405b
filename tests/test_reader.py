"""Point 34: sayings, bets, bids and stalls read from texts."""

import unittest

from betstall.errors import NoText
from betstall.reader import read_bet, read_bid, read_saying, read_stall
from betstall.texts import show_bet, show_bid, show_saying, show_stall

from tests.helpers import Maker, always, check_refused, check_steady, things
from tests.papers import changed_text, second_bet, second_bid, second_saying, second_stall

YES = ("yes",)
HOUSE = ("ab", (("a", "b", "or"),))
TERM = ((1, 2), ("a",))
BET = ((TERM, ((-3, 1), ("b", "not"))), ("b",))
BID = (BET, (1, 3))
STALL = show_stall(HOUSE, (BID, (((), YES), (0, 1))))


class ReaderCase(unittest.TestCase):

    def check_by(self, reader, second, handed, thing):
        """It is read as the second way reads it, or refused."""
        due = second(*handed, thing)
        if due is None:
            check_refused(self, NoText, reader, *handed, thing)
        else:
            self.assertEqual(repr(reader(*handed, thing)), repr(due))
        return due

    def saying(self, thing, letters="ab"):
        return self.check_by(read_saying, second_saying, (letters,), thing)

    def bet(self, thing, letters="ab"):
        return self.check_by(read_bet, second_bet, (letters,), thing)

    def bid(self, thing, house=HOUSE):
        return self.check_by(read_bid, second_bid, (house,), thing)

    def stall(self, thing):
        return self.check_by(read_stall, second_stall, (), thing)


class TestSayings(ReaderCase):

    def test_right_ones(self):
        for text in ("a", "b", "yes", "no", "a not", "a b and", "a b not same yes or"):
            self.assertEqual(self.saying(text), tuple(text.split()))

    def test_refused(self):
        for text in ("", " ", "a b", "and", "c", "ab", "A", "YES", "a  not", " a", "a ", "a\n", "\na", "a\nnot", "a not ",
                     "a,not", "given a", "a and", "not a", "1", "a\tnot"):
            self.assertIsNone(self.saying(text), text)
        self.assertIsNone(self.saying("b", "a"))

    def test_forty_and_forty_one_words(self):
        self.assertEqual(self.saying(" ".join(always(40))), always(40))
        self.assertIsNone(self.saying(" ".join(always(41))))
        self.assertIsNone(self.saying(" ".join(always(4000))))

    def test_anything(self):
        for thing in things() + [("a",), ["a"], b"a"]:
            self.saying(thing)


class TestBets(ReaderCase):

    def test_right_ones(self):
        self.assertEqual(self.bet("given yes"), ((), YES))
        self.assertEqual(self.bet("given b pays 1/2 if a pays -3 if b not"), BET)
        self.assertEqual(self.bet("given a b and pays 0 if no"), ((((0, 1), ("no",)),), ("a", "b", "and")))
        # It may live nowhere.
        self.assertEqual(self.bet("given no pays 1 if a"), ((((1, 1), ("a",)),), ("no",)))

    def test_refused(self):
        for text in ("", "given", "given ", "yes", "pays 1 if a", "given yes pays", "given yes pays 1", "given yes pays 1 if",
                     "given yes pays if a", "given yes pays 1 a", "given pays 1 if a", "given yes pays 1 if a pays",
                     "given yes pays 2/4 if a", "given yes pays +1 if a", "given yes pays 1/1 if a", "given yes if a",
                     "given yes pays 1 if c", "given c", "Given yes", "GIVEN YES", "given yes pays 1 if a ",
                     " given yes", "given  yes", "given yes  pays 1 if a", "given yes\n", "given\nyes", "given yes given yes",
                     "given yes pays 1 if a if b", "given yes pays 1 2 if a", "given yes pays a if a", "given yes at 1",
                     "given yes pays 1 if pays 2 if a", "given yes pays pays 1 if a", "given given yes"):
            self.assertIsNone(self.bet(text), text)

    def test_eight_and_nine_terms(self):
        for many in range(11):
            told = self.bet("given yes" + " pays 1/2 if a" * many)
            self.assertEqual(told, ((TERM,) * many, YES) if many <= 8 else None)

    def test_forty_and_forty_one_words(self):
        for many in (39, 40, 41):
            text = " ".join(always(many))
            self.assertEqual(self.bet("given " + text) is not None, many <= 40)
            self.assertEqual(self.bet("given yes pays 1 if " + text) is not None, many <= 40)

    def test_figures(self):
        for many in (300, 301):
            for amount in ("1" * many, "-" + "1" * many, "1/" + "1" * many):
                self.assertEqual(self.bet("given yes pays " + amount + " if a") is not None, many == 300)

    def test_anything(self):
        for thing in things() + [BET, BID, list(BET), b"given yes"]:
            self.bet(thing)


class TestBids(ReaderCase):

    def test_right_ones(self):
        self.assertEqual(self.bid("given b pays 1/2 if a pays -3 if b not at 1/3"), BID)
        self.assertEqual(self.bid("given yes at 0"), (((), YES), (0, 1)))
        self.assertEqual(self.bid("given yes at -7/2"), (((), YES), (-7, 2)))

    def test_that_live_nowhere(self):
        for text in ("given no at 0", "given a a not and at 1", "given a b or not at 1/2"):
            self.assertIsNone(self.bid(text), text)
            self.assertEqual(self.bid(text, ("ab", ())) is None, "or" not in text)

    def test_refused(self):
        for text in ("", "at 1", "given yes", "given yes at", "given yes at ", "given yes 1", "given yes at 2/4",
                     "given yes at 1 at 1", "given yes at 1 ", "given yes at 1\n", "given yes  at 1", "given yes at  1",
                     "given yes AT 1", "given yes at +1", "given yes at 1 pays 1 if a", "at given yes 1",
                     "given yes at a", "given yes pays 1 at 1", "given at 1", "bid given yes at 1", "given c at 1",
                     "given yes at " + "1" * 301):
            self.assertIsNone(self.bid(text), text)
        self.assertIsNotNone(self.bid("given yes at " + "1" * 300))

    def test_eight_and_nine_terms(self):
        self.assertIsNotNone(self.bid("given yes" + " pays 1/2 if a" * 8 + " at 1"))
        self.assertIsNone(self.bid("given yes" + " pays 1/2 if a" * 9 + " at 1"))

    def test_anything(self):
        for thing in things() + [BET, BID, list(BID), b"given yes at 1"]:
            self.bid(thing)


class TestStalls(ReaderCase):

    def test_right_ones(self):
        self.assertEqual(self.stall(STALL), (HOUSE, (BID, (((), YES), (0, 1)))))
        self.assertEqual(self.stall("letters a\n"), (("a", ()), ()))
        self.assertEqual(self.stall("letters abcdef\nrule a\n"), (("abcdef", (("a",),)), ()))
        self.assertEqual(self.stall("letters z\nbid given z at 1\n"), (("z", ()), ((((), ("z",)), (1, 1)),)))

    def test_refused(self):
        for text in ("", "\n", "letters", "letters\n", "letters \n", "letters a", "letters a\n\n", "\nletters a\n",
                     "letters ba\n", "letters aa\n", "letters A\n", "letters a b\n", "letters abcdefg\n", "letters 1\n",
                     "Letters a\n", "letters a \n", " letters a\n", "letters  a\n", "letters a\nletters a\n",
                     "rule yes\nletters a\n", "letters a\nrule\n", "letters a\nrule no\n", "letters a\nrule b\n",
                     "letters a\nrule a\nrule a not\n", "letters a\nbid given a at 1\nrule a\n", "letters a\nbid\n",
                     "letters a\nbid given a at 1", "letters a\nbid given no at 1\n", "letters a\ngiven a at 1\n",
                     "letters a\nrule a\nbid given a not at 1\n", "letters a\nrule yes\n\nbid given a at 1\n",
                     "letters a\nrules yes\n", "letters a\r\n", "letters a\nbid given a at 1 \n", "rule yes\n",
                     "bid given yes at 1\n", "letters a\nbid given b at 1\n", "letters a\n \n", "letters a\n ", "a\n",
                     "letters a\nrule yes\nbid given a at 1\nbid given a at 1\nrule yes\n", "letters a rule yes\n"):
            self.assertIsNone(self.stall(text), text)

    def test_eight_and_nine_rules(self):
        for many in range(11):
            told = self.stall("letters a\n" + "rule yes\n" * many + "bid given a at 1\n")
            self.assertEqual(told is not None, many <= 8)

    def test_twelve_and_thirteen_bids(self):
        for many in range(15):
            told = self.stall("letters a\n" + "bid given a at 1/2\n" * many)
            self.assertEqual(told is not None, many <= 12)

    def test_unfair_lists_are_read(self):
        self.assertEqual(self.stall("letters a\nbid given yes pays 1 if a at 2\n")[1], ((((((1, 1), ("a",)),), YES), (2, 1)),))

    def test_each_line_out_twice_exchanged_or_without_its_end(self):
        lines = STALL.splitlines(True)
        self.assertEqual(len(lines), 4)
        for at in range(4):
            self.stall("".join(lines[:at] + lines[at + 1:]))
            self.stall("".join(lines[:at] + [lines[at]] + lines[at:]))
            self.assertIsNone(self.stall("".join(lines[:at] + [lines[at][:-1]] + lines[at + 1:])))
            for other in range(at):
                swapped = list(lines)
                swapped[at], swapped[other] = lines[other], lines[at]
                # The two bids may change places, nothing else.
                self.assertEqual(self.stall("".join(swapped)) is not None, (other, at) == (2, 3))
        self.assertIsNone(self.stall("".join(lines[1:])))
        self.assertIsNotNone(self.stall("".join(lines[:1] + lines[2:])))

    def test_anything(self):
        for thing in things() + [HOUSE, (HOUSE, (BID,)), [STALL], STALL.encode()]:
            self.stall(thing)


class TestWhatIsWritten(ReaderCase):

    def test_it_is_read_as_what_it_was(self):
        maker = Maker(195)
        for turn in range(60):
            house = maker.house(1, 6)
            saying, bet, bids = maker.saying(house[0]), maker.bet(house[0], 8), maker.bids(house, maker.dice.randint(1, 12))
            self.assertEqual(repr(read_saying(house[0], show_saying(saying))), repr(saying))
            self.assertEqual(repr(read_bet(house[0], show_bet(bet))), repr(bet))
            self.assertEqual(repr(read_bid(house, show_bid(bids[0]))), repr(bids[0]))
            self.assertEqual(repr(read_stall(show_stall(house, bids))), repr((house, bids)))

    def test_what_is_read_is_written_so(self):
        for text in ("letters ab\nrule a b or\nbid given a pays -1/2 if b at 3\n", STALL):
            self.assertEqual(show_stall(*read_stall(text)), text)

    def test_texts_changed(self):
        maker = Maker(196)
        read = []
        for turn in range(700):
            house = maker.house(1, 3)
            letters = house[0]
            bids = maker.bids(house, 2)
            texts = (show_saying(maker.saying(letters)), show_bet(maker.bet(letters)), show_bid(bids[0]),
                     show_stall(house, bids))
            once = [changed_text(maker.dice, text) for text in texts]
            for row in (once, [changed_text(maker.dice, text) for text in once]):
                told = (self.saying(row[0], letters), self.bet(row[1], letters), self.bid(row[2], house),
                        self.stall(row[3]))
                read.append([one is not None for one in told])
        for column in zip(*read):
            self.assertGreater(sum(column), 50)

    def test_asked_again(self):
        check_steady(self, read_stall, [(STALL,), ("letters a\n",)])
        check_steady(self, read_bid, [(HOUSE, show_bid(BID)), (("ab", ()), show_bid(BID))])
        check_steady(self, read_bet, [("ab", show_bet(BET)), ("abc", show_bet(BET))])
        check_steady(self, read_saying, [("ab", "a b or"), ("abc", "a b or")])


if __name__ == "__main__":
    unittest.main()
