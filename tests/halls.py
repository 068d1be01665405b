"""A second way to look over stands and to do deeds, and makers of both."""

from fractions import Fraction

from betstall.deeds import done
from betstall.errors import StallError
from betstall.judging import judged
from betstall.prices import low_of

from tests.helpers import (Maker, lives_somewhere, number, paid, pair_of, right_bet, right_bids, right_fraction,
                           right_house, right_saying, things, truth, worlds, worth)

LENGTHS = {"deal": 6, "split": 3, "hand": 5, "net": 3, "clear": 2, "post": 3, "sell": 5, "hear": 2}
YES = ("yes",)


def on(saying, given=YES, amount=(1, 1)):
    return (((amount, saying),), given)


def bringing(house, ticket, world):
    """What a ticket brings its long, a Fraction."""
    due = paid(house[0], ticket[3], world)
    return Fraction(0) if due is None else worth(ticket[5]) * (due - worth(ticket[4]))


def having(stand, holder, world):
    """What a holder has at a world, a Fraction."""
    told = worth(stand[1][holder])
    for ticket in stand[2]:
        if ticket[1] == holder:
            told += bringing(stand[0], ticket, world)
        if ticket[2] == holder:
            told -= bringing(stand[0], ticket, world)
    return told


def all_have(stand):
    """What every holder has at every world, by the world."""
    return {world: [having(stand, holder, world) for holder in range(len(stand[1]))] for world in worlds(stand[0])}


def is_cover(stand):
    return all(min(row) >= 0 for row in all_have(stand).values())


def right_holder(purses, thing):
    return number(thing) and thing in range(len(purses))


def ticket_right(house, purses, many, thing):
    return (type(thing) is tuple and len(thing) == 6 and number(thing[0]) and 0 <= thing[0] < many
            and right_holder(purses, thing[1]) and right_holder(purses, thing[2]) and thing[1] != thing[2]
            and right_bet(house[0], thing[3]) and lives_somewhere(house, thing[3])
            and right_fraction(thing[4]) and right_fraction(thing[5]) and thing[5][0] > 0)


def stand_right(thing):
    """Whether a thing is a stand, part by part."""
    if not (type(thing) is tuple and len(thing) == 5 and right_house(thing[0]) and number(thing[4]) and thing[4] >= 0):
        return False
    house, purses, tickets, lists, many = thing
    if not (type(purses) is tuple and 2 <= len(purses) <= 6 and all(right_fraction(purse) for purse in purses)):
        return False
    if not (type(tickets) is tuple and len(tickets) <= 12
            and all(ticket_right(house, purses, many, ticket) for ticket in tickets)):
        return False
    numbers = [ticket[0] for ticket in tickets]
    if sorted(set(numbers)) != numbers:
        return False
    if not (type(lists) is tuple and len(lists) == len(purses)
            and all(right_bids(house, row) and len(row) <= 6 for row in lists)):
        return False
    return is_cover(thing)


def fair(house, bids):
    return judged(house, bids)[0] == "fair"


def with_number(tickets, thing):
    found = [ticket for ticket in tickets if number(thing) and ticket[0] == thing]
    return found[0] if found else None


def second_deal(stand, long, short, bet, price, stake):
    house, purses, tickets, lists, many = stand
    if not (right_holder(purses, long) and right_holder(purses, short) and long != short):
        return "NoHolder"
    if not (right_bet(house[0], bet) and lives_somewhere(house, bet)):
        return "NoBet"
    if not (right_fraction(price) and right_fraction(stake) and stake[0] > 0):
        return "NoStake"
    if len(tickets) == 12:
        return "TooMany"
    behind = (house, purses, tickets + ((many, long, short, bet, price, stake),), lists, many + 1)
    return (many, behind) if is_cover(behind) else "NoCover"


def second_split(stand, asked, stake):
    house, purses, tickets, lists, many = stand
    ticket = with_number(tickets, asked)
    if ticket is None:
        return "NoTicket"
    if not (right_fraction(stake) and 0 < worth(stake) < worth(ticket[5])):
        return "NoStake"
    if len(tickets) == 12:
        return "TooMany"
    at = tickets.index(ticket)
    rest = ticket[:5] + (pair_of(worth(ticket[5]) - worth(stake)),)
    new = (many,) + ticket[1:5] + (stake,)
    return (many, (house, purses, tickets[:at] + (rest,) + tickets[at + 1:] + (new,), lists, many + 1))


def second_hand(stand, asked, holder, to, fee):
    house, purses, tickets, lists, many = stand
    ticket = with_number(tickets, asked)
    if ticket is None or not number(holder) or holder not in (ticket[1], ticket[2]):
        return "NoTicket"
    if not right_holder(purses, to) or to == holder:
        return "NoHolder"
    if not right_fraction(fee):
        return "NoStake"
    rich = [worth(purse) for purse in purses]
    rich[holder] -= worth(fee)
    rich[to] += worth(fee)
    at = tickets.index(ticket)
    sides = tuple(to if side == holder else side for side in ticket[1:3])
    kept = () if sides[0] == sides[1] else (ticket[:1] + sides + ticket[3:],)
    behind = (house, tuple(map(pair_of, rich)), tickets[:at] + kept + tickets[at + 1:], lists, many)
    return (None, behind) if is_cover(behind) else "NoCover"


def second_net(stand, one, other):
    house, purses, tickets, lists, many = stand
    first, second = with_number(tickets, one), with_number(tickets, other)
    if first is None or second is None or one == other:
        return "NoTicket"
    if first[3] != second[3] or first[4] != second[4] or {first[1], first[2]} != {second[1], second[2]}:
        return "NotAlike"
    low, high = sorted((first, second), key=lambda ticket: ticket[0])
    # Seen from the long of the lesser number.
    left = worth(low[5]) + (worth(high[5]) if low[1] == high[1] else -worth(high[5]))
    sides = low[1:3] if left > 0 else (low[2], low[1])
    stays = () if left == 0 else ((low[0],) + sides + low[3:5] + (pair_of(abs(left)),),)
    row = []
    for ticket in tickets:
        row += stays if ticket is low else () if ticket is high else (ticket,)
    return (low[0] if stays else None, (house, purses, tuple(row), lists, many))


def second_clear(stand, asked):
    house, purses, tickets, lists, many = stand
    ticket = with_number(tickets, asked)
    if ticket is None:
        return "NoTicket"
    balance = {holder: Fraction(0) for holder in range(len(purses))}
    row = []
    for one in tickets:
        if (one[3], one[4]) == (ticket[3], ticket[4]):
            balance[one[1]] += worth(one[5])
            balance[one[2]] -= worth(one[5])
        else:
            row.append(one)
    new = []
    while any(balance.values()):
        long = min(holder for holder in balance if balance[holder] > 0)
        short = min(holder for holder in balance if balance[holder] < 0)
        stake = min(balance[long], -balance[short])
        new.append((many + len(new), long, short, ticket[3], ticket[4], pair_of(stake)))
        balance[long] -= stake
        balance[short] += stake
    if len(row) + len(new) > 12:
        return "TooMany"
    return (tuple(one[0] for one in new), (house, purses, tuple(row + new), lists, many + len(new)))


def second_post(stand, holder, bids):
    house, purses, tickets, lists, many = stand
    if not right_holder(purses, holder):
        return "NoHolder"
    if not right_bids(house, bids) or len(bids) > 6:
        return "NoBet"
    if not fair(house, bids):
        return "Unfair"
    row = tuple(bids if at == holder else ahead for at, ahead in enumerate(lists))
    return (len(bids), (house, purses, tickets, row, many))


def second_sell(stand, seller, holder, place, stake):
    purses, lists = stand[1], stand[3]
    if not (right_holder(purses, seller) and right_holder(purses, holder) and seller != holder):
        return "NoHolder"
    if not number(place) or place not in range(len(lists[holder])):
        return "NoBet"
    bet, price = lists[holder][place]
    return second_deal(stand, holder, seller, bet, price, stake)


def second_carried(house, bids, saying):
    """What becomes of a fair list behind news, or a refusal."""
    told = []
    for bet, price in bids:
        if any(truth(house[0], bet[1], world) and truth(house[0], saying, world) for world in worlds(house)):
            if len(bet[1]) + len(saying) + 1 > 40:
                return "TooLong"
            told.append((bet, low_of(house, bids, (bet[0], bet[1] + saying + ("and",)))[0]))
    if any(len(str(abs(part))) > 300 for bet, price in told for part in price):
        return "TooLong"
    return tuple(told)


def second_hear(stand, saying):
    house, purses, tickets, lists, many = stand
    if not right_saying(house[0], saying):
        return "NoSaying"
    if not all(fair(house, row) for row in lists):
        return "Unfair"
    if not any(truth(house[0], saying, world) for world in worlds(house)):
        return "NoWorld"
    if len(house[1]) == 8:
        return "TooMany"
    rows = [second_carried(house, row, saying) for row in lists]
    if "TooLong" in rows:
        return "TooLong"
    behind = (house[0], house[1] + (saying,))
    rich, gone, left = [worth(purse) for purse in purses], [], []
    for ticket in tickets:
        brings = {bringing(behind, ticket, world) for world in worlds(behind)}
        if len(brings) == 1:
            gain = brings.pop()
            rich[ticket[1]] += gain
            rich[ticket[2]] -= gain
            gone.append(ticket[0])
        else:
            left.append(ticket)
    return (tuple(gone), (behind, tuple(map(pair_of, rich)), tuple(left), tuple(rows), many))


SECOND = {"deal": second_deal, "split": second_split, "hand": second_hand, "net": second_net,
          "clear": second_clear, "post": second_post, "sell": second_sell, "hear": second_hear}


def second_done(stand, deed):
    """(told, stand), or the name of the refusal's class."""
    if not (type(deed) is tuple and deed and type(deed[0]) is str and LENGTHS.get(deed[0]) == len(deed)):
        return "NoDeed"
    return SECOND[deed[0]](stand, *deed[1:])


def asked(stand, deed):
    """What done tells, or the name of the class of what it raises."""
    try:
        return done(stand, deed)
    except StallError as refusal:
        return type(refusal).__name__


class HallMaker(Maker):
    """Makes stands and deeds, the same ones for the same seed."""

    def ticket(self, house, holders, at):
        long, short = self.dice.sample(range(holders), 2)
        stake = pair_of(Fraction(self.dice.randint(1, 6), self.dice.randint(1, 4)))
        return (at, long, short) + self.bid(house, 2) + (stake,)

    def tickets(self, house, holders, most):
        """Tickets, some of them alike but for their holders and stakes."""
        told = []
        at = 0
        for turn in range(self.dice.randint(0, most)):
            at += self.dice.choice((1, 1, 2)) if told else self.dice.choice((0, 1))
            new = self.ticket(house, holders, at)
            if told and self.dice.random() < 0.6:
                old = self.dice.choice(told)
                new = new[:3] + old[3:5] + self.dice.choice((new[5:], old[5:]))
                if self.dice.random() < 0.5:
                    new = new[:1] + self.dice.choice((old[1:3], old[2:0:-1])) + new[3:]
            told.append(new)
        return tuple(told)

    def posted(self, house, holders):
        return tuple(self.borne(house, self.dice.randint(0, 3))[1] if self.dice.random() < 0.7 else ()
                     for holder in range(holders))

    def stand(self, most=5, least_letters=1, most_letters=3):
        """A stand with what its tickets need for cover, or somewhat more."""
        house = self.house(least_letters, most_letters)
        holders = self.dice.randint(2, 6)
        tickets = self.tickets(house, holders, most)
        empty = (house, ((0, 1),) * holders, tickets, (), 0)
        purses = tuple(pair_of(-min(having(empty, holder, world) for world in worlds(house))
                               + self.dice.choice((0, 0, 1, Fraction(5, 2), 20))) for holder in range(holders))
        many = (tickets[-1][0] + 1 if tickets else 0) + self.dice.choice((0, 0, 3))
        return (house, purses, tickets, self.posted(house, holders), many)

    def thing(self):
        return self.dice.choice(things()[:60])

    def holder(self, stand):
        return self.dice.randint(0, len(stand[1]) - 1)

    def number(self, stand):
        numbers = [ticket[0] for ticket in stand[2]]
        return self.dice.choice(numbers) if numbers and self.dice.random() < 0.9 else self.dice.randint(0, 5)

    def deed(self, stand, words=tuple(LENGTHS)):
        """A deed of a stand, done or refused."""
        word = self.dice.choice(words)
        parts = getattr(self, word)(stand)
        if self.dice.random() < 0.1:
            at = self.dice.randint(0, len(parts) - 1)
            parts = parts[:at] + (self.thing(),) + parts[at + 1:]
        return (word,) + parts

    def deal(self, stand):
        return tuple(self.dice.sample(range(len(stand[1])), 2)) + self.bid(stand[0]) + (self.above(),)

    def above(self):
        return pair_of(Fraction(self.dice.randint(1, 5), self.dice.randint(1, 8)))

    def split(self, stand):
        number = self.number(stand)
        ticket = with_number(stand[2], number)
        share = Fraction(self.dice.randint(1, 5), 5) * (worth(ticket[5]) if ticket else 1)
        return (number, pair_of(share))

    def hand(self, stand):
        number = self.number(stand)
        ticket = with_number(stand[2], number)
        holder = self.dice.choice(ticket[1:3]) if ticket and self.dice.random() < 0.9 else self.holder(stand)
        return (number, holder, self.holder(stand), self.fraction(3))

    def net(self, stand):
        one, other = self.number(stand), self.number(stand)
        pairs = [(ticket[0], further[0]) for ticket in stand[2] for further in stand[2]
                 if ticket[3:5] == further[3:5] and set(ticket[1:3]) == set(further[1:3]) and ticket != further]
        return self.dice.choice(pairs) if pairs and self.dice.random() < 0.8 else (one, other)

    def clear(self, stand):
        return (self.number(stand),)

    def post(self, stand):
        house = stand[0]
        bids = self.borne(house, self.dice.randint(0, 4))[1] if self.dice.random() < 0.8 else self.bids(house, 3)
        return (self.holder(stand), bids)

    def sell(self, stand):
        posting = [holder for holder, row in enumerate(stand[3]) if row]
        holder = self.dice.choice(posting) if posting else self.holder(stand)
        place = self.dice.randint(0, max(0, len(stand[3][holder]) - (self.dice.random() < 0.8)))
        return (self.holder(stand), holder, place, self.above())

    def hear(self, stand):
        return (self.saying(stand[0][0], self.dice.choice((1, 3, 5))),)
