"""Least costs over linear systems, worked out in integers by the dual simplex method.

The integers may be of any size here: mintlaw.systems and mintlaw.least look at what is handed to them.
"""

from mintlaw.vectors import reduced


class Table:
    """A system, written so that some of its variables are told by the other ones.

    The variables from 0 to width - 1 are the numbers of a point; those from width on tell by how much
    each row is above its bound. A line tells `over` times its variable: the sum of its entries times the
    variables of `columns`, and of its last entry. `cost` is a line that tells the cost.

    All lines have the one denominator `over`, so that they stay integers: each entry is a determinant
    of the system's own numbers, and the divisions in `exchanged` leave no rest.
    """

    def __init__(self, rows, bounds, cost):
        self.width = len(cost)
        self.over = 1
        self.columns = list(range(self.width))
        self.told = [self.width + at for at in range(len(rows))]
        self.lines = [[*row, -bound] for row, bound in zip(rows, bounds)]
        self.cost = [*cost, 0]

    def line_below(self):
        """Return the index of a line that is below 0 where the columns are 0, or None."""
        # Always the first variable of all, here and in column_for, so that no table comes back (Bland's rule).
        below = [(variable, at) for at, variable in enumerate(self.told) if self.lines[at][-1] < 0]
        return min(below)[1] if below else None

    def column_for(self, at):
        """Return the index of the column that raises a line at the least cost, or None if none does."""
        best = None
        for column, entry in enumerate(self.lines[at][:-1]):
            if entry > 0 and (best is None or self.is_cheaper(at, column, best)):
                best = column
        return best

    def is_cheaper(self, at, column, other):
        """Tell whether one column raises a line at less cost than another, or is the first of two equal ones."""
        line = self.lines[at]
        here = self.cost[column] * line[other]
        there = self.cost[other] * line[column]
        return (here, self.columns[column]) < (there, self.columns[other])

    def exchange(self, at, column):
        """Let the variable of a line and that of a column change their places."""
        turned = self.lines[at]
        lines = [self.exchanged(line, turned, column) for line in self.lines]
        lines[at] = [-entry for entry in turned]
        lines[at][column] = self.over
        self.cost = self.exchanged(self.cost, turned, column)
        self.lines = lines
        self.over = turned[column]
        self.told[at], self.columns[column] = self.columns[column], self.told[at]

    def exchanged(self, line, turned, column):
        """Return a line as it is when the variables of the line `turned` and of a column change places."""
        pivot, share, over = turned[column], line[column], self.over
        entries = [(pivot * entry - share * other) // over for entry, other in zip(line, turned)]
        entries[column] = share
        return entries

    def point(self):
        """Return the point at which the columns are 0."""
        numbers = [0] * self.width
        for variable, line in zip(self.told, self.lines):
            if variable < self.width:
                numbers[variable] = line[-1]
        return over_one(numbers, self.over)

    def witness(self):
        """Return the witness that the cost cannot be below its last entry."""
        return over_one(self.row_shares(self.cost), self.over)

    def refutation(self, at):
        """Return the refutation that a line gives that is below 0 and cannot be raised."""
        shares = self.row_shares([-entry for entry in self.lines[at]])
        if self.told[at] >= self.width:
            shares[self.told[at] - self.width] = self.over
        return reduced(shares)

    def row_shares(self, line):
        """Return the list of the entries of a line, one for each row; 0 for a row that is in no column."""
        shares = [0] * len(self.lines)
        for variable, entry in zip(self.columns, line):
            if variable >= self.width:
                shares[variable - self.width] = entry
        return shares


def over_one(numbers, over):
    """Return the pair of a tuple of numbers and their denominator, without common factors."""
    entries = reduced([*numbers, over])
    return entries[:-1], entries[-1]


def least_cost(rows, bounds, cost):
    """Return ("best", point, witness), or ("none", refutation) if no point solves the system."""
    table = Table(rows, bounds, cost)
    at = table.line_below()
    while at is not None:
        column = table.column_for(at)
        if column is None:
            return "none", table.refutation(at)
        table.exchange(at, column)
        at = table.line_below()
    return "best", table.point(), table.witness()
