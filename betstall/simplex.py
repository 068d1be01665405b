"""The most that some wants come to within bounds, sought in whole numbers alone.

Sought are amounts from 0 on, one for each want. Each row of ints, times the
amounts, comes to at most its bound, which is from 0 on.
"""


class Board:
    """The rows solved for some amounts and spares, as many as there are rows; all others stand at 0.

    A row's last entry is its bound, the last row that of the wants. Everything
    on the board is to be divided by its scale: so all entries stay ints.
    """

    def __init__(self, rows, bounds, wants):
        many = len(wants)
        self.rows = [list(row) + [bound] for row, bound in zip(rows, bounds)]
        self.rows.append([-want for want in wants] + [0])
        self.scale = 1
        self.many = many
        # Amounts have the names from 0, the spare of each row those behind them.
        self.resting = list(range(many))
        self.solved_for = [many + at for at in range(len(rows))]

    def entering(self, stalled):
        """The column that raises the wants; None where none does."""
        found = None
        wants = self.rows[-1]
        for at, name in enumerate(self.resting):
            if wants[at] < 0:
                # By least names no round of exchanges that gain nothing comes again; else the steepest is quicker.
                if found is None or (name < self.resting[found] if stalled else wants[at] < wants[found]):
                    found = at
        return found

    def leaving(self, column):
        """The row whose bound is met first as the column rises; None where none is."""
        found = None
        for at, name in enumerate(self.solved_for):
            row = self.rows[at]
            if row[column] > 0:
                nearest = row if found is None else self.rows[found]
                later = row[-1] * nearest[column] - nearest[-1] * row[column]
                if found is None or later < 0 or (later == 0 and name < self.solved_for[found]):
                    found = at
        return found

    def exchange(self, at, column):
        """The row is solved for the column's name instead of its own."""
        lead = self.rows[at]
        pivot = lead[column]
        for place, row in enumerate(list(self.rows)):
            if place != at:
                part = row[column]
                # What stands here is a minor of the rows handed in: the scale divides it without rest.
                moved = [(pivot * old - part * new) // self.scale for old, new in zip(row, lead)]
                moved[column] = -part
                self.rows[place] = moved
        lead[column] = self.scale
        self.scale = pivot
        self.resting[column], self.solved_for[at] = self.solved_for[at], self.resting[column]

    def amounts(self):
        """The amounts as they stand, times the scale."""
        told = [0] * self.many
        for at, name in enumerate(self.solved_for):
            if name < self.many:
                told[name] = self.rows[at][-1]
        return told

    def prices(self):
        """What one more of each row's bound would bring, times the scale."""
        told = [0] * len(self.solved_for)
        for at, name in enumerate(self.resting):
            if name >= self.many:
                told[name - self.many] = self.rows[-1][at]
        return told

    def ray(self, column):
        """How the amounts grow, times the scale, as the column rises without end."""
        told = [0] * self.many
        for at, name in enumerate(self.solved_for):
            if name < self.many:
                told[name] = -self.rows[at][column]
        if self.resting[column] < self.many:
            told[self.resting[column]] = self.scale
        return told


def most_of(rows, bounds, wants):
    """The board at which the wants are greatest, and None; or a board and the column that rises without end."""
    board = Board(rows, bounds, wants)
    stalled = False
    column = board.entering(stalled)
    while column is not None:
        at = board.leaving(column)
        if at is None:
            return board, column
        stalled = board.rows[at][-1] == 0
        board.exchange(at, column)
        column = board.entering(stalled)
    return board, None
