"""The refusals of the package: one class for each kind, all made of nothing, and each knows what it is called."""


class StallError(ValueError):
    """Every refusal of this package."""

    def __init__(self):
        self.named = "StallError"


class TooLong(StallError):
    """A saying would have too many words, a bet too many terms, or a price too many figures."""

    def __init__(self):
        self.named = "TooLong"


class TooMany(StallError):
    """There would be more rules, bids, letters or tickets than may be."""

    def __init__(self):
        self.named = "TooMany"


class NoWorld(StallError):
    """No world of the house would be left."""

    def __init__(self):
        self.named = "NoWorld"


class NotAlike(StallError):
    """Two things that have to agree don't."""

    def __init__(self):
        self.named = "NotAlike"


class Unfair(StallError):
    """The bids are unfair where fair ones are wanted."""

    def __init__(self):
        self.named = "Unfair"


class Fair(StallError):
    """The bids are fair where unfair ones are wanted."""

    def __init__(self):
        self.named = "Fair"


class NoBet(StallError):
    """There is no bet, or none that lives."""

    def __init__(self):
        self.named = "NoBet"


class NoHolder(StallError):
    """There is no such holder."""

    def __init__(self):
        self.named = "NoHolder"


class NoStake(StallError):
    """A price, a stake or a fee isn't one."""

    def __init__(self):
        self.named = "NoStake"


class NoTicket(StallError):
    """There is no such ticket."""

    def __init__(self):
        self.named = "NoTicket"


class NoCover(StallError):
    """Some holder would have less than nothing at some world."""

    def __init__(self):
        self.named = "NoCover"


class NoSaying(StallError):
    """There is no saying over the letters."""

    def __init__(self):
        self.named = "NoSaying"


class NoDeed(StallError):
    """There is no such deed."""

    def __init__(self):
        self.named = "NoDeed"


class NoStep(StallError):
    """There is no deed to be taken back."""

    def __init__(self):
        self.named = "NoStep"


class NoText(StallError):
    """The text isn't the writing of anything."""

    def __init__(self):
        self.named = "NoText"
