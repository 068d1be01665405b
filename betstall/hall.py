"""A hall of holders, which does deeds and takes them back."""

from betstall.deeds import done
from betstall.errors import NoStep
from betstall.stands import first_stand


class Hall:
    """All stands from the first one on, one more for each deed that was done and not taken back."""

    def __init__(self, house, purses):
        self.stands = [first_stand(house, purses)]

    def do(self, deed):
        """What is told of a deed; refused, the hall stays as it was."""
        told, behind = done(self.stand(), deed)
        self.stands.append(behind)
        return told

    def back(self):
        """Takes the last deed back."""
        if self.steps() == 0:
            raise NoStep()
        self.stands.pop()

    def stand(self):
        """The stand of the hall."""
        return self.stands[-1]

    def steps(self):
        """How many deeds stand."""
        return len(self.stands) - 1

    def __len__(self):
        return len(self.stand()[2])

    def __eq__(self, other):
        return isinstance(other, Hall) and self.stand() == other.stand()
