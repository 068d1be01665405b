"""The refusals of the package: one class for each kind, all made of nothing."""


class StallError(ValueError):
    """Every refusal of this package."""


class TooLong(StallError):
    """A saying would have too many words, a bet too many terms, or a price too many figures."""


class TooMany(StallError):
    """There would be more rules, bids, letters or tickets than may be."""


class NoWorld(StallError):
    """No world of the house would be left."""


class NotAlike(StallError):
    """Two things that have to agree don't."""


class Unfair(StallError):
    """The bids are unfair where fair ones are wanted."""


class Fair(StallError):
    """The bids are fair where unfair ones are wanted."""


class NoBet(StallError):
    """There is no bet, or none that lives."""


class NoHolder(StallError):
    """There is no such holder."""


class NoStake(StallError):
    """A price, a stake or a fee isn't one."""


class NoTicket(StallError):
    """There is no such ticket."""


class NoCover(StallError):
    """Some holder would have less than nothing at some world."""


class NoSaying(StallError):
    """There is no saying over the letters."""


class NoDeed(StallError):
    """There is no such deed."""


class NoStep(StallError):
    """There is no deed to be taken back."""


class NoText(StallError):
    """The text isn't the writing of anything."""
