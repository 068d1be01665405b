"""Runs: deeds done one behind another, where a refused one leaves the stand as it was."""

from betstall.deeds import done
from betstall.errors import StallError
from betstall.kinds import is_same


def done_or_refused(stand, deed):
    """What is told of a deed and the stand behind it, or the name of the refusal's class and the stand as it was."""
    try:
        return done(stand, deed)
    except StallError as refusal:
        return (refusal.named, stand)


def run(stand, deeds):
    """What is told of each deed, or the name of its refusal's class, and the stand behind all of them."""
    tells = []
    here = stand
    for deed in deeds:
        told, here = done_or_refused(here, deed)
        tells.append(told)
    return (tuple(tells), here)


def right_run(stand, deeds, thing):
    """Whether anything is just what a run of the deeds tells."""
    return is_same(run(stand, deeds), thing)
