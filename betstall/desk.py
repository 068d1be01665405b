"""A desk: a hall that is told deeds and asked questions by lines of text."""

from betstall.errors import NoHolder, NoText, NoTicket, StallError
from betstall.hall import Hall
from betstall.houses import worlds_of
from betstall.lines import read_line
from betstall.stands import worst_of
from betstall.texts import show_bet, show_bid, show_fraction, show_number
from betstall.tickets import is_place, ticket_of


def show_numbers(numbers):
    """Some numbers, or none."""
    return " ".join([show_number(number) for number in numbers]) if len(numbers) > 0 else "none"


def say_deal(hall, row):
    """A line has the parts of a deal in another order than its deed."""
    word, long, short, stake, price, bet = row
    return "ticket " + show_number(hall.do((word, long, short, bet, price, stake)))


def say_ticket(hall, row):
    """A split or a sale: the new ticket."""
    return "ticket " + show_number(hall.do(row))


def say_hand(hall, row):
    """A handing on."""
    hall.do(row)
    return "handed"


def say_net(hall, row):
    """A netting: the ticket that stands, if one does."""
    told = hall.do(row)
    return "gone" if told is None else "ticket " + show_number(told)


def say_clear(hall, row):
    """A clearing: the new tickets."""
    return "tickets " + show_numbers(hall.do(row))


def say_post(hall, row):
    """A posting: how many bids."""
    return "posted " + show_number(hall.do(row))


def say_hear(hall, row):
    """News: the tickets that are paid."""
    return "paid " + show_numbers(hall.do(row))


def say_back(hall, row):
    """The last deed is taken back."""
    hall.back()
    return "back"


def holder_of(hall, number):
    """The number itself, refused where no holder has it."""
    if not is_place(len(hall.stand()[1]), number):
        raise NoHolder()
    return number


def say_purse(hall, row):
    """What is in a holder's purse."""
    return show_fraction(hall.stand()[1][holder_of(hall, row[1])])


def say_worst(hall, row):
    """The least that a holder has at any world."""
    return show_fraction(worst_of(hall.stand(), holder_of(hall, row[1]))[0])


def say_tickets(hall, row):
    """The numbers of the tickets that stand."""
    return show_numbers([ticket[0] for ticket in hall.stand()[2]])


def say_show(hall, row):
    """A ticket, as the line of a deal has it."""
    ticket = ticket_of(hall.stand()[2], row[1])
    if ticket is None:
        raise NoTicket()
    number, long, short, bet, price, stake = ticket
    return " ".join([show_number(long), show_number(short), show_fraction(stake), show_fraction(price), show_bet(bet)])


def say_list(hall, row):
    """A holder's bids."""
    bids = hall.stand()[3][holder_of(hall, row[1])]
    return " ".join(["bid " + show_bid(bid) for bid in bids]) if len(bids) > 0 else "none"


def say_worlds(hall, row):
    """How many worlds the house has."""
    return show_number(len(worlds_of(hall.stand()[0])))


def say_steps(hall, row):
    """How many deeds stand."""
    return show_number(hall.steps())


ANSWERS = {
    "deal": say_deal, "split": say_ticket, "sell": say_ticket, "hand": say_hand, "net": say_net, "clear": say_clear,
    "post": say_post, "hear": say_hear, "back": say_back, "purse": say_purse, "worst": say_worst,
    "tickets": say_tickets, "show": say_show, "list": say_list, "worlds": say_worlds, "steps": say_steps,
}


class Desk:
    """A hall, and what it tells of lines."""

    def __init__(self, house, purses):
        self.hall = Hall(house, purses)

    def say(self, line):
        """What is told of a line: an answer, the name of a refusal's class, or NoWord."""
        hall = self.hall
        try:
            row = read_line(hall.stand()[0][0], line)
        except NoText:
            return "NoWord"
        answer = ANSWERS[row[0]]
        try:
            return answer(hall, row)
        except StallError as refusal:
            return refusal.named
