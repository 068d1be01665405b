"""Points 33 and 3 (i), (j): what holds in a hall behind whatever deeds."""

import itertools
import unittest
from fractions import Fraction

from betstall.books import right_loss
from betstall.deeds import done
from betstall.judging import judged
from betstall.stands import first_stand, is_stand, worst_of, worth_at

from tests.halls import HallMaker, LENGTHS, all_have, asked, bringing, on, stand_right, with_number
from tests.helpers import gained, losing, pair_of, truth, worlds, worth

DEALING = ("deal", "deal", "sell", "post", "split", "hand", "net", "clear")


def coins(stand):
    return sum(worth(purse) for purse in stand[1])


def opened(maker, most_letters=4):
    house = maker.house(2, most_letters)
    purses = tuple(pair_of(Fraction(maker.dice.randint(0, 40), maker.dice.randint(1, 3)))
                   for holder in range(maker.dice.randint(2, 6)))
    return first_stand(house, purses)


def played(maker, stand, many, words=DEALING):
    """The stand behind some deeds, as many as are not refused of so many."""
    for turn in range(many):
        told = asked(stand, maker.deed(stand, words))
        stand = stand if isinstance(told, str) else told[1]
    return stand


def added(rows, changes):
    """What all have, changed by so much for some holders at each world."""
    return {world: [have + changes.get(holder, {}).get(world, 0) for holder, have in enumerate(row)]
            for world, row in rows.items()}


def turned_rows(row):
    return {world: -gain for world, gain in row.items()}


def brings(house, ticket):
    return {world: bringing(house, ticket, world) for world in worlds(house)}


class TestAnyDeeds(unittest.TestCase):

    def check_step(self, deed, ahead, told, behind, start):
        """What anybody has is changed by dealing, selling and handing on alone, and by just what they tell."""
        self.assertIs(is_stand(behind), True)
        self.assertTrue(stand_right(behind))
        self.assertEqual(coins(behind), start)
        before, after = all_have(ahead), all_have(behind)
        word = deed[0]
        if word in ("split", "net", "clear", "post"):
            self.assertEqual(after, before)
            self.assertEqual(behind[1], ahead[1])
        elif word == "hear":
            self.assertEqual(after, {world: before[world] for world in after})
            self.assertEqual(list(after), [world for world in before if truth(ahead[0][0], deed[1], world)])
            if len(after) == 1:
                self.assertEqual(behind[2], ())
                self.assertEqual([worth(purse) for purse in behind[1]], list(after.values())[0])
        elif word in ("deal", "sell"):
            ticket = with_number(behind[2], told)
            row = brings(ahead[0], ticket)
            self.assertEqual(after, added(before, {ticket[1]: row, ticket[2]: turned_rows(row)}))
        else:
            number, holder, to, fee = deed[1:]
            ticket = with_number(ahead[2], number)
            row = brings(ahead[0], ticket)
            row = row if ticket[1] == holder else turned_rows(row)
            mine = {world: -gain - worth(fee) for world, gain in row.items()}
            self.assertEqual(after, added(before, {holder: mine, to: turned_rows(mine)}))

    def test_each_step(self):
        maker = HallMaker(170)
        seen = []
        for turn in range(60):
            stand = opened(maker)
            start = coins(stand)
            for again in range(25):
                deed = maker.deed(stand, DEALING if again % 6 else tuple(LENGTHS))
                told = asked(stand, deed)
                if not isinstance(told, str):
                    self.check_step(deed, stand, told[0], told[1], start)
                    seen.append(deed[0])
                    stand = told[1]
        for word in LENGTHS:
            self.assertGreater(seen.count(word), 15, word)

    def test_each_ticket_has_two_holders(self):
        maker = HallMaker(171)
        for turn in range(30):
            stand = played(maker, opened(maker), 20)
            for number, long, short, bet, price, stake in stand[2]:
                alone = (stand[0], ((0, 1),) * len(stand[1]), ((number, long, short, bet, price, stake),), (), 0)
                for world in worlds(stand[0]):
                    row = [worth(worth_at(alone, holder, world)) for holder in range(len(stand[1]))]
                    self.assertEqual(sum(row), 0)
                    self.assertEqual(row[long], -row[short])
                    self.assertEqual([have for holder, have in enumerate(row) if holder not in (long, short)],
                                     [0] * (len(row) - 2))

    def test_nobody_owes_more_than_they_have(self):
        maker = HallMaker(172)
        for turn in range(30):
            stand = played(maker, opened(maker), 25, tuple(LENGTHS))
            for holder in range(len(stand[1])):
                self.assertGreaterEqual(worst_of(stand, holder)[0][0], 0)


class TestNews(unittest.TestCase):

    def test_the_same_news_in_any_order(self):
        maker = HallMaker(173)
        seen = 0
        for turn in range(40):
            stand = played(maker, opened(maker), 15)
            news = [maker.hear(stand)[0] for again in range(maker.dice.choice((2, 3)))]
            ends = []
            for row in itertools.permutations(news):
                end = stand
                for saying in row:
                    told = asked(end, ("hear", saying))
                    end = None if end is None or isinstance(told, str) else told[1]
                    if end is None:
                        break
                ends.append(end)
            if None not in ends:
                seen += 1
                self.assertEqual(len({end[1] for end in ends}), 1)
                self.assertEqual(len({end[2] for end in ends}), 1)
                self.assertEqual(len({end[4] for end in ends}), 1)
        self.assertGreater(seen, 10)

    def test_down_to_one_world(self):
        maker = HallMaker(174)
        paid = 0
        for turn in range(40):
            stand = played(maker, opened(maker, 3), 15)
            letters = stand[0][0]
            for world in worlds(stand[0]):
                due = [worth_at(stand, holder, world) for holder in range(len(stand[1]))]
                end = stand
                for letter in maker.dice.sample(letters, len(letters)):
                    saying = (letter,) if world[letters.index(letter)] == "1" else (letter, "not")
                    end = done(end, ("hear", saying))[1]
                self.assertEqual(worlds(end[0]), [world])
                self.assertEqual(end[2], ())
                self.assertEqual(list(end[1]), due)
                paid += len(stand[2])
        self.assertGreater(paid, 200)

    def test_deals_behind_news_too(self):
        maker = HallMaker(175)
        for turn in range(20):
            stand = opened(maker)
            start = coins(stand)
            for again in range(3):
                stand = played(maker, stand, 8)
                told = asked(stand, ("hear",) + maker.hear(stand))
                stand = stand if isinstance(told, str) else told[1]
            self.assertEqual(coins(stand), start)
            self.assertTrue(stand_right(stand))


class TestPosting(unittest.TestCase):

    def through_news(self, maker, stand, holder):
        """All that a holder gives from a posting on, each bid called off but for what had been heard, and the house."""
        house, news, rows = stand[0], (), []
        for again in range(maker.dice.randint(1, 4)):
            rows.append([(bet[0], bet[1] + news) for bet, price in stand[3][holder]])
            rows[-1] = tuple(zip(rows[-1], [price for bet, price in stand[3][holder]]))
            saying = maker.hear(stand)[0]
            told = asked(stand, ("hear", saying))
            if not isinstance(told, str):
                stand = told[1]
                news += saying + ("and",)
        return house, tuple(bid for row in rows for bid in row)

    def test_the_posted_list_stays_fair_with_all_that_it_is_carried_to(self):
        maker = HallMaker(176)
        for turn in range(60):
            house = maker.house(2, 4)
            stand = first_stand(house, ((1, 1), (1, 1)))
            stand = done(stand, ("post", 1, maker.borne(house, maker.dice.randint(1, 4))[1]))[1]
            start, bids = self.through_news(maker, stand, 1)
            self.assertEqual(judged(start, bids)[0], "fair")

    def test_what_is_sold_loses_not_surely(self):
        maker = HallMaker(177)
        sales = 0
        for turn in range(60):
            house = maker.house(2, 4)
            stand = first_stand(house, ((90, 1), (90, 1), (90, 1)))
            stand = done(stand, ("post", 0, maker.borne(house, maker.dice.randint(1, 4))[1]))[1]
            news, bids, stakes = (), [], []
            for again in range(8):
                if maker.dice.random() < 0.3:
                    saying = maker.hear(stand)[0]
                    told = asked(stand, ("hear", saying))
                    news += () if isinstance(told, str) else saying + ("and",)
                else:
                    place = maker.dice.randint(0, 3)
                    deed = ("sell", maker.dice.choice((1, 2)), 0, place, maker.above())
                    told = asked(stand, deed)
                    if not isinstance(told, str):
                        (terms, given), price = stand[3][0][place]
                        bids.append(((terms, given + news), price))
                        stakes.append(deed[4])
                stand = stand if isinstance(told, str) else told[1]
            sales += len(bids)
            self.assertIs(right_loss(house, tuple(bids), tuple(stakes)), False)
            self.assertFalse(losing(house, tuple(bids), tuple(stakes)))
            gains = [gain for gain in gained(house, bids, stakes) if gain is not None]
            self.assertTrue(not gains or max(gains) >= 0)
        self.assertGreater(sales, 150)

    def test_who_posts_anew_may_lose_surely(self):
        # The promise holds until they post anew: here each list is fair, both together are not.
        stand = first_stand(("a", ()), ((9, 1), (9, 1)))
        for bids in (((on(("a",)), (2, 3)),), ((on(("a", "not")), (2, 3)),)):
            stand = done(stand, ("post", 0, bids))[1]
            stand = done(stand, ("sell", 1, 0, 0, (3, 1)))[1]
        self.assertEqual([worst_of(stand, holder) for holder in (0, 1)], [((8, 1), "0"), ((10, 1), "0")])


if __name__ == "__main__":
    unittest.main()
