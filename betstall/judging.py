"""Fair or unfair: layers that bear a list of bids, or stakes that lose surely by it."""

from betstall.errors import Unfair
from betstall.freeing import freed
from betstall.gains import Gains


def judged_part(gains, numbers):
    """("fair", layers) that bear the bids of these numbers, or ("loss", stakes) for them, 0 for all others."""
    layers, left, stakes = freed(gains, numbers, gains.places())
    return ("loss", stakes) if left else ("fair", tuple(layers))


def judged_gains(gains):
    """("fair", layers) or ("loss", stakes) of all bids that these gains are of."""
    return judged_part(gains, gains.numbers())


def judged(house, bids):
    """("fair", layers), layers that bear the bids, or ("loss", stakes), stakes that lose surely by them."""
    return judged_gains(Gains(house, bids))


def fair_gains(house, bids):
    """What the bids gain, refused where they are unfair."""
    gains = Gains(house, bids)
    if judged_gains(gains)[0] == "loss":
        raise Unfair()
    return gains
