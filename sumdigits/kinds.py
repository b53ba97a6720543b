"""What stores of each kind reckon: sums, or the greatest."""

from sumdigits.checks import is_integer
from sumdigits.schemes import check_weights


class Sums:
    """Cells and answers are sums."""

    def __init__(self):
        self.word = "sums"

    def check_model(self, scheme):
        """Refuse a scheme that cannot be kept; sums take any."""

    def is_amount(self, value, present):
        """Whether a value can be put in the place of the present entry."""
        return is_integer(value)

    def is_rise(self, value):
        """Whether a value can be added to an entry."""
        return is_integer(value)

    def changed(self, cells, row, old, new):
        """The cells when an entry changes; row has what the change table tells for it and each cell."""
        found = list(cells)
        for at, number in row.items():
            found[at] = found[at] + number * (new - old)
        return tuple(found)

    def joined(self, pairs):
        """The answer of pairs of what the question table tells for each cell, and the cells."""
        return sum([number * cells[at] for row, cells in pairs for at, number in row.items()])


class Greatest:
    """Cells and answers are the greatest; entries only rise."""

    def __init__(self):
        self.word = "greatest"

    def check_model(self, scheme):
        check_weights(scheme)

    def is_amount(self, value, present):
        return is_integer(value) and value >= present

    def is_rise(self, value):
        return is_integer(value) and value >= 0

    def changed(self, cells, row, old, new):
        return tuple([new if new > cell and row.get(at, 0) > 0 else cell for at, cell in enumerate(cells)])

    def joined(self, pairs):
        best = 0
        for row, cells in pairs:
            # What a scheme tells here is never below 0, and rows have no 0: so all that they have counts.
            for at in row:
                if cells[at] > best:
                    best = cells[at]
        return best


def gathered(kind, grid, column):
    """All cells for a column of entries, grid having the values of the change table."""
    cells = (0,) * grid.size
    for at, entry in enumerate(column):
        if entry != 0:
            cells = kind.changed(cells, grid.row(at), 0, entry)
    return cells
