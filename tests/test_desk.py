"""Point 35: the class Desk."""

import copy
import re
import unittest

from betstall.desk import Desk
from betstall.stands import first_stand

from tests.halls import HallMaker, LENGTHS, having, second_done, with_number
from tests.helpers import pair_of, things, worlds
from tests.papers import (bet_text, bid_text, changed_text, fraction_text, loose_bid, second_bet, second_fraction,
                          second_saying)

HOUSE = ("ab", ())
PURSES = ((5, 1), (5, 1), (1, 2))
NUMBER = re.compile(r"0|[1-9][0-9]{0,19}")
DEAL = "deal 0 1 2 1/2 given yes pays 1 if a"
SHAPES = {"split": "nf", "sell": "nnnf", "hand": "nnnf", "net": "nn", "clear": "n"}


def second_parts(shape, words):
    """The numbers and fractions that the words are, or None."""
    if len(words) != len(shape):
        return None
    told = []
    for kind, word in zip(shape, words):
        if kind == "n":
            told.append(int(word) if NUMBER.fullmatch(word) else None)
        else:
            told.append(second_fraction(word))
    return None if None in told else tuple(told)


def second_deed(letters, line):
    """The deed that a line tells, or None."""
    word, blank, rest = line.partition(" ")
    if word in SHAPES:
        parts = second_parts(SHAPES[word], rest.split(" ")) if blank else None
        return parts and (word,) + parts
    if word == "deal":
        words = rest.split(" ", 4)
        parts = second_parts("nnff", words[:4]) if len(words) == 5 else None
        bet = parts and second_bet(letters, words[4])
        return bet and ("deal", parts[0], parts[1], bet, parts[3], parts[2])
    if word == "post":
        holder, *bids = rest.split(" bid ")
        bids = tuple(loose_bid(letters, bid) for bid in bids)
        parts = second_parts("n", [holder])
        return None if parts is None or None in bids else ("post", parts[0], bids)
    if word == "hear":
        saying = second_saying(letters, rest)
        return saying and ("hear", saying)
    return None


def listed(numbers):
    return " ".join(map(str, numbers)) or "none"


class SecondDesk:
    """Answers lines another way."""

    def __init__(self, house, purses):
        self.stands = [first_stand(house, purses)]

    def say(self, line):
        if type(line) is not str:
            return "NoWord"
        if line == "back":
            return "NoStep" if len(self.stands) == 1 else (self.stands.pop(), "back")[1]
        stand = self.stands[-1]
        deed = second_deed(stand[0][0], line)
        if deed is None:
            return self.question(stand, line)
        told = second_done(stand, deed)
        if isinstance(told, str):
            return told
        self.stands.append(told[1])
        told = told[0]
        return {"hand": "handed", "net": f"ticket {told}" if told is not None else "gone", "post": f"posted {told}",
                "clear": deed[0] == "clear" and "tickets " + listed(told),
                "hear": deed[0] == "hear" and "paid " + listed(told)}.get(deed[0], f"ticket {told}")

    def question(self, stand, line):
        house, purses, tickets, lists, many = stand
        if line in ("tickets", "worlds", "steps"):
            return {"tickets": listed([ticket[0] for ticket in tickets]), "worlds": str(len(worlds(house))),
                    "steps": str(len(self.stands) - 1)}[line]
        word, blank, rest = line.partition(" ")
        if word not in ("purse", "worst", "show", "list") or not NUMBER.fullmatch(rest):
            return "NoWord"
        number = int(rest)
        if word == "show":
            ticket = with_number(tickets, number)
            return "NoTicket" if ticket is None else (f"{ticket[1]} {ticket[2]} {fraction_text(ticket[5])} "
                                                      f"{fraction_text(ticket[4])} {bet_text(ticket[3])}")
        if number >= len(purses):
            return "NoHolder"
        if word == "purse":
            return fraction_text(purses[number])
        if word == "worst":
            return fraction_text(pair_of(min(having(stand, number, world) for world in worlds(house))))
        return " ".join("bid " + bid_text(bid) for bid in lists[number]) or "none"


def line_of(deed):
    """The line that tells a deed, or None where there is none."""
    word, *parts = deed
    try:
        if word == "deal":
            long, short, bet, price, stake = parts
            return f"deal {long} {short} {fraction_text(stake)} {fraction_text(price)} {bet_text(bet)}"
        if word == "post":
            return " ".join([f"post {parts[0]}"] + ["bid " + bid_text(bid) for bid in parts[1]])
        if word == "hear":
            return "hear " + " ".join(parts[0])
        return " ".join([word] + [fraction_text(part) if type(part) is tuple else str(part) for part in parts])
    except (TypeError, ValueError, IndexError, ZeroDivisionError):
        return None


def told_lines(*lines):
    """A desk that was told lines."""
    desk = Desk(HOUSE, PURSES)
    for line in lines:
        desk.say(line)
    return desk


class DeskCase(unittest.TestCase):

    def talk(self, *pairs, desk=None):
        """Each line is answered so, by the desk and by the second one."""
        desk, second = desk or Desk(HOUSE, PURSES), SecondDesk(HOUSE, PURSES)
        for line, due in pairs:
            self.assertEqual(desk.say(line), due, line)
            self.assertEqual(second.say(line), due, line)


class TestDeeds(DeskCase):

    def test_deal(self):
        self.talk((DEAL, "ticket 0"), ("deal 1 0 1/2 -1/3 given b", "ticket 1"), ("deal 0 0 1 1 given yes", "NoHolder"),
                  ("deal 0 3 1 1 given yes", "NoHolder"), ("deal 0 1 1 1 given no", "NoBet"),
                  ("deal 0 1 1 1 given a a not and pays 1 if a", "NoBet"), ("deal 0 1 0 1 given yes", "NoStake"),
                  ("deal 0 1 -1 1 given yes", "NoStake"), ("deal 0 1 99 1 given yes", "NoCover"),
                  ("deal 0 1 1 1 given c", "NoWord"), ("tickets", "0 1"), ("show 0", "0 1 2 1/2 given yes pays 1 if a"),
                  ("show 1", "1 0 1/2 -1/3 given b"), ("steps", "2"))

    def test_stake_ahead_of_the_price(self):
        self.talk(("deal 0 1 3 1/7 given a", "ticket 0"), ("show 0", "0 1 3 1/7 given a"), ("worst 0", "32/7"))

    def test_too_many(self):
        lines = [("deal 0 1 1/9 1/2 given a", f"ticket {at}") for at in range(12)]
        self.talk(*lines, ("deal 0 1 1/9 1/2 given a", "TooMany"), ("split 0 1/18", "TooMany"),
                  ("tickets", "0 1 2 3 4 5 6 7 8 9 10 11"), ("clear 3", "tickets 12"), ("tickets", "12"))

    def test_split(self):
        self.talk((DEAL, "ticket 0"), ("split 0 1/2", "ticket 1"), ("split 0 3/2", "NoStake"), ("split 2 1/2", "NoTicket"),
                  ("split 0 0", "NoStake"), ("show 0", "0 1 3/2 1/2 given yes pays 1 if a"),
                  ("show 1", "0 1 1/2 1/2 given yes pays 1 if a"))

    def test_hand(self):
        self.talk((DEAL, "ticket 0"), ("hand 0 0 2 -1", "NoCover"), ("hand 0 0 2 1/2", "handed"), ("purse 0", "9/2"),
                  ("purse 2", "1"), ("hand 0 0 1 0", "NoTicket"), ("hand 0 2 3 0", "NoHolder"), ("hand 0 2 2 0", "NoHolder"),
                  ("hand 0 2 1 -1/3", "handed"), ("tickets", "none"), ("purse 2", "4/3"))

    def test_net(self):
        self.talk((DEAL, "ticket 0"), (DEAL, "ticket 1"), ("deal 1 0 4 1/2 given yes pays 1 if a", "ticket 2"),
                  ("net 0 0", "NoTicket"), ("net 0 7", "NoTicket"), ("net 0 1", "ticket 0"), ("net 2 0", "gone"),
                  ("tickets", "none"), (DEAL, "ticket 3"), ("deal 0 1 1 1 given a", "ticket 4"), ("net 3 4", "NotAlike"))

    def test_clear(self):
        self.talk((DEAL, "ticket 0"), ("deal 1 0 2 1/2 given yes pays 1 if a", "ticket 1"), ("clear 2", "NoTicket"),
                  ("clear 1", "tickets none"), ("deal 0 1 1/4 1/2 given a", "ticket 2"),
                  ("deal 1 2 1/4 1/2 given a", "ticket 3"), ("deal 1 2 1/4 1/2 given a", "ticket 4"),
                  ("clear 4", "tickets 5 6"), ("show 5", "0 2 1/4 1/2 given a"), ("show 6", "1 2 1/4 1/2 given a"))

    def test_post_and_sell(self):
        bid = "bid given b pays 1 if a at 1/3"
        self.talk(("list 1", "none"), ("post 1 " + bid, "posted 1"), ("list 1", bid), ("post 1", "posted 0"),
                  ("list 1", "none"), (f"post 1 {bid} bid given yes at 0", "posted 2"), ("list 1", bid + " bid given yes at 0"),
                  ("post 3 " + bid, "NoHolder"), ("post 0 bid given yes at 1", "Unfair"), ("post 0 bid given no at 1", "NoBet"),
                  ("post 0" + (" " + bid) * 6, "posted 6"), ("post 0" + (" " + bid) * 7, "NoBet"),
                  ("post 0" + (" " + bid) * 13, "NoBet"), ("sell 0 1 0 3/2", "ticket 0"), ("show 0", "1 0 3/2 1/3 given b pays 1 if a"),
                  ("sell 0 1 2 1", "NoBet"), ("sell 1 1 0 1", "NoHolder"), ("sell 0 1 0 0", "NoStake"), ("sell 0 1 0 99", "NoCover"))

    def test_hear(self):
        self.talk((DEAL, "ticket 0"), ("deal 0 1 1 1/2 given b pays 1 if a", "ticket 1"), ("hear b", "paid none"),
                  ("worlds", "2"), ("hear b not", "NoWorld"), ("hear c", "NoWord"), ("hear a", "paid 0 1"), ("worlds", "1"),
                  ("purse 0", "13/2"), ("purse 1", "7/2"), ("hear a", "paid none"))
        self.talk(*[("hear yes", "paid none")] * 8, ("hear yes", "TooMany"), ("hear no", "NoWorld"), ("steps", "8"))

    def test_hear_too_long(self):
        given = "yes" + " not" * 38
        self.talk((f"post 0 bid given {given} at 0", "posted 1"), ("hear a", "TooLong"), ("worlds", "4"), ("post 0", "posted 0"),
                  ("hear a", "paid none"))

    def test_back(self):
        self.talk(("back", "NoStep"), (DEAL, "ticket 0"), ("clear 7", "NoTicket"), ("steps", "1"), ("back", "back"),
                  ("tickets", "none"), ("back", "NoStep"), (DEAL, "ticket 0"), ("hear a", "paid 0"), ("back", "back"),
                  ("tickets", "0"), ("worlds", "4"), ("steps", "1"))


class TestQuestions(DeskCase):

    def test_questions(self):
        self.talk(("purse 0", "5"), ("purse 2", "1/2"), ("purse 3", "NoHolder"), ("worst 2", "1/2"), ("worst 3", "NoHolder"),
                  ("tickets", "none"), ("show 0", "NoTicket"), ("list 0", "none"), ("list 3", "NoHolder"), ("worlds", "4"),
                  ("steps", "0"), (DEAL, "ticket 0"), ("worst 0", "4"), ("worst 1", "4"), ("worst 2", "1/2"), ("purse 0", "5"),
                  ("tickets", "0"), ("show 1", "NoTicket"), ("steps", "1"))

    def test_they_change_nothing(self):
        desk = told_lines(DEAL, "post 1 bid given a pays 1 if b at 1/3")
        asked = ["purse 0", "purse 9", "worst 1", "worst 9", "tickets", "show 0", "show 5", "list 1", "list 2", "list 8",
                 "worlds", "steps", "nothing", "", None]
        first = [desk.say(line) for line in asked]
        self.assertEqual([desk.say(line) for line in asked], first)
        self.assertEqual([desk.say(line) for line in asked[::-1]], first[::-1])
        self.assertEqual([desk.say("steps"), desk.say("back"), desk.say("back"), desk.say("back")],
                         ["2", "back", "back", "NoStep"])

    def test_purses_below_nothing(self):
        self.talk(("deal 0 1 1 1 given yes pays 3 if yes", "ticket 0"), ("hand 0 0 2 -1/2", "handed"), ("purse 2", "0"),
                  ("deal 2 0 1 0 given yes pays 1 if yes", "ticket 1"), ("hand 1 0 1 2", "handed"), ("worst 2", "3"))

    def test_a_purse_of_many_figures(self):
        desk = Desk(HOUSE, ((10 ** 399 + 7, 3), (1, 1)))
        self.assertEqual(desk.say("purse 0"), "1" + "0" * 398 + "7/3")


class TestNoWord(DeskCase):

    RIGHT = (DEAL, "split 0 1/2", "hand 0 0 2 0", "net 0 1", "clear 0", "post 0 bid given a at 1/3", "post 0", "sell 0 1 0 1",
             "hear a b or", "back", "purse 0", "worst 0", "tickets", "show 0", "list 0", "worlds", "steps")

    def check_no_word(self, line):
        desk, second = told_lines(DEAL), SecondDesk(HOUSE, PURSES)
        second.say(DEAL)
        self.assertEqual(second.say(line), "NoWord", line)
        self.assertEqual(desk.say(line), "NoWord", line)
        self.assertEqual(desk.say("steps"), "1")

    def test_right_lines(self):
        for line in self.RIGHT:
            self.assertNotEqual(told_lines(DEAL).say(line), "NoWord", line)

    def test_a_word_out_or_more(self):
        for line in self.RIGHT:
            words = line.split(" ")
            for at in range(len(words)):
                short = " ".join(words[:at] + words[at + 1:])
                if short not in ("post 0", "hear a") and not short.startswith("hear a"):
                    desk, second = told_lines(DEAL), SecondDesk(HOUSE, PURSES)
                    second.say(DEAL)
                    self.assertEqual(desk.say(short), second.say(short), short)
            for more in ("0", "yes", "x", "", "bid", "back"):
                self.check_no_word(line + " " + more)
                self.check_no_word(more + " " + line)
        for line in ("deal", "deal 0", "deal 0 1", "deal 0 1 1", "deal 0 1 1 1", "deal 0 1 1 1 given", "split", "split 0",
                     "hand 0 0 1", "net 0", "clear", "post", "sell 0 1 0", "hear", "hear ", "purse", "worst", "show", "list",
                     "post 0 bid", "post 0 given a at 1", "post 0 bid given a at 1 bid", "post bid given a at 1"):
            self.check_no_word(line)

    def test_capitals_blanks_and_line_ends(self):
        for line in self.RIGHT:
            for wrong in (line.upper(), line.title(), line + " ", " " + line, line + "\n", "\n" + line, line + "\n" + line):
                self.check_no_word(wrong)
            if " " in line:
                self.check_no_word(line.replace(" ", "  "))
                self.check_no_word(line.replace(" ", "  ", 1))
                self.check_no_word(line.replace(" ", "\n", 1))

    def test_numbers(self):
        for number, due in (("9" * 20, "NoHolder"), ("9" * 21, "NoWord"), ("1" + "0" * 19, "NoHolder"), ("00", "NoWord"),
                            ("1" + "0" * 20, "NoWord"), ("01", "NoWord"), ("-1", "NoWord"), ("-0", "NoWord"),
                            ("+1", "NoWord"), ("1/2", "NoWord"), ("1.0", "NoWord"), ("", "NoWord"), ("a", "NoWord"),
                            ("True", "NoWord"), ("1" * 20000, "NoWord"), ("3", "NoHolder")):
            for line in (f"purse {number}", f"worst {number}", f"list {number}", f"post {number}",
                         f"deal {number} 1 1 1 given yes", f"deal 1 {number} 1 1 given yes", f"sell {number} 1 0 1",
                         f"sell 1 {number} 0 1"):
                self.talk((line, due))
            ticket = due.replace("NoHolder", "NoTicket")
            for line in (f"show {number}", f"clear {number}", f"net {number} 0", f"net 0 {number}", f"split {number} 1",
                         f"hand {number} 0 1 1", f"hand 0 {number} 1 1"):
                self.talk((line, ticket))
            self.talk(("post 1 bid given a at 0", "posted 1"), (f"sell 0 1 {number} 1", due.replace("NoHolder", "NoBet")))
            self.talk((DEAL, "ticket 0"), (f"hand 0 0 {number} 0", due))

    def test_fractions(self):
        for text in ("2/4", "1/1", "0/1", "-0", "+1", "01", "1/0", "1/", "/2", "1.5", "a", "", "1/-2", "1" * 301,
                     "1/" + "3" * 301):
            for line in (f"deal 0 1 {text} 1 given yes", f"deal 0 1 1 {text} given yes", f"split 0 {text}",
                         f"hand 0 0 2 {text}", f"sell 0 1 0 {text}", f"post 0 bid given a at {text}",
                         f"deal 0 1 1 1 given yes pays {text} if a"):
                self.check_no_word(line)
        self.talk((f"deal 0 1 {'1' * 300} 1 given yes", "NoCover"), (f"deal 0 1 1/{'3' * 300} 1 given yes", "ticket 0"))

    def test_what_is_none_over_the_letters(self):
        for line in ("deal 0 1 1 1 given c", "deal 0 1 1 1 given yes pays 1 if c", "hear c", "hear a b", "hear and",
                     "post 0 bid given c at 1", "deal 0 1 1 1 yes", "hear " + "yes" + " not" * 40,
                     "deal 0 1 1 1 given yes" + " pays 1 if a" * 9, "deal 9 9 0 1 given c", "post 9 bid given c at 1",
                     "deal 0 1 1 1 given yes at 1", "post 0 bid given yes"):
            self.check_no_word(line)

    def test_what_lives_nowhere_is_the_halls_to_refuse(self):
        self.talk(("deal 0 1 1 1 given no", "NoBet"), ("deal 0 0 1 1 given no", "NoHolder"), ("post 0 bid given no at 1", "NoBet"),
                  ("post 7 bid given no at 1", "NoHolder"), ("hear no", "NoWorld"), ("hear a", "paid none"),
                  ("deal 0 1 1 1 given a not", "NoBet"), ("post 0 bid given a not at 1", "NoBet"), ("hear a not", "NoWorld"))

    def test_anything(self):
        desk = told_lines(DEAL)
        for thing in things() + [[DEAL], (DEAL,), {DEAL: 1}, DEAL.encode()]:
            ahead = copy.deepcopy(thing)
            self.assertEqual(desk.say(thing), "NoWord")
            self.assertEqual(repr(thing), repr(ahead))
        self.assertEqual((desk.say("steps"), desk.say("tickets")), ("1", "0"))


class TestDesks(DeskCase):

    def test_two_share_nothing(self):
        one, other = Desk(HOUSE, PURSES), Desk(HOUSE, PURSES)
        one.say(DEAL)
        one.say("hear b")
        self.assertEqual([other.say(line) for line in ("steps", "tickets", "worlds", "back")], ["0", "none", "4", "NoStep"])
        other.say("post 0 bid given a at 0")
        self.assertEqual([one.say(line) for line in ("steps", "tickets", "worlds", "list 0")], ["2", "0", "2", "none"])

    def test_say_stands_in_the_class(self):
        self.assertIn("say", vars(Desk))
        self.assertIn("__init__", vars(Desk))

    def test_whatever_is_said(self):
        maker = HallMaker(200)
        seen = {}
        for turn in range(60):
            house = maker.house(1, 3)
            purses = tuple((maker.dice.randint(0, 20), 1) for holder in range(maker.dice.randint(2, 6)))
            desk, second = Desk(house, purses), SecondDesk(house, purses)
            for again in range(40):
                stand = second.stands[-1]
                line = line_of(maker.deed(stand)) or "back"
                if maker.dice.random() < 0.4:
                    line = maker.dice.choice(("tickets", "worlds", "steps", "back", f"purse {maker.dice.randint(0, 6)}",
                                              f"worst {maker.dice.randint(0, 6)}", f"show {maker.number(stand)}",
                                              f"list {maker.dice.randint(0, 6)}"))
                if maker.dice.random() < 0.15:
                    line = changed_text(maker.dice, line)
                due = second.say(line)
                self.assertEqual(desk.say(line), due, line)
                seen.setdefault(line.split(" ")[0], set()).add(due.split(" ")[0])
        for word in LENGTHS:
            self.assertGreater(len(seen[word]), 2, word)
        self.assertLessEqual({"back", "NoStep"}, seen["back"])

    def test_told_the_same_it_answers_the_same(self):
        maker = HallMaker(201)
        lines, second = [], SecondDesk(HOUSE, PURSES)
        while len(lines) < 60:
            lines.append(line_of(maker.deed(second.stands[-1])) or "tickets")
            second.say(lines[-1])
        one, other = Desk(HOUSE, PURSES), Desk(HOUSE, PURSES)
        self.assertEqual([one.say(line) for line in lines], [other.say(line) for line in lines])


if __name__ == "__main__":
    unittest.main()
