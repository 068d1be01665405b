"""What becomes of a list of bids behind news."""

from betstall.bets import called_off
from betstall.errors import TooLong
from betstall.houses import may_be, narrowed
from betstall.judging import fair_gains
from betstall.means import low_price
from betstall.tables import table_of

# The least number with more than three hundred figures.
TOO_GREAT = (10 ** 60) ** 5


def is_too_great(price):
    """Whether a fraction's top or bottom has more than three hundred figures."""
    return abs(price[0]) >= TOO_GREAT or price[1] >= TOO_GREAT


def carried_on(house, bids, gains, saying, behind):
    """What becomes of fair bids, of which these are the gains, in the house behind the news."""
    bets = [bet for bet, price in bids if may_be(behind, bet[1])]
    tables = [table_of(house, called_off(bet, saying)) for bet in bets]
    prices = [low_price(gains, gains.numbers(), table) for table in tables]
    if any([is_too_great(price) for price in prices]):
        raise TooLong()
    return tuple(zip(bets, prices))


def carried(house, bids, saying):
    """The house and the bids behind the news that a saying holds."""
    gains = fair_gains(house, bids)
    behind = narrowed(house, saying)
    return (behind, carried_on(house, bids, gains, saying, behind))
