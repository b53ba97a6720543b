"""Rows of integers that do not depend on one another, and determinants."""

from sumdigits.bases import FIRST_PRIME, Basis, all_depend, as_tuple, copy_of, multiples, sparse, taken
from sumdigits.checks import is_between, is_row
from sumdigits.errors import BadNumber, BadWidth


class Rows:
    """Rows of so many integers, none of which depends on those ahead of it."""

    def __init__(self, width):
        if not is_between(width, 1, 60):
            raise BadWidth(width)
        self.width = width
        self._rows = ()
        self._basis = Basis(FIRST_PRIME)

    @staticmethod
    def of(width, *rows):
        """The rows of so many integers, each only if it does not depend on those ahead of it."""
        found = Rows(width)
        for row in rows:
            found = found.more(row)
        return found

    def more(self, row):
        """With one row more, if it does not depend on those that are there."""
        _check_row(row, self.width)
        found = Rows(self.width)
        found._basis = copy_of(self._basis)
        told = taken(found._basis, sparse(row))
        found._rows = self._rows + (row,) if told is None else self._rows
        return found

    def made_of(self, row):
        """None, or the least divisor and the numbers by which the rows add up to divisor times the row."""
        _check_row(row, self.width)
        told = multiples(self._basis, sparse(row), 1)
        return None if told is None else (told[0], as_tuple(told[1], len(self._rows)))

    def __contains__(self, x):
        return is_row(x, self.width) and all_depend(self._basis, [sparse(x)])

    def __len__(self):
        return len(self._rows)

    def __iter__(self):
        return iter(self._rows)

    def __bool__(self):
        return bool(self._rows)

    def __le__(self, other):
        if not isinstance(other, Rows):
            raise BadNumber(other)
        if self.width != other.width:
            raise BadWidth(other.width)
        return all_depend(other._basis, self._basis.rows)

    def __eq__(self, other):
        return isinstance(other, Rows) and self.width == other.width and self._rows == other._rows


def _check_row(row, width):
    if not is_row(row, width):
        raise BadNumber(row)


def determinant(square):
    """The determinant of at most 40 rows of as many integers as there are rows."""
    if not _is_square(square):
        raise BadNumber(square)
    rows = [list(row) for row in square]
    sign = 1
    last = 1
    while rows:
        heads = [at for at, row in enumerate(rows) if row[0] != 0]
        if len(heads) == 0:
            return 0
        if heads[0] % 2 == 1:
            sign = -sign
        head = rows[heads[0]]
        others = rows[:heads[0]] + rows[heads[0] + 1:]
        rows = [_lowered(head, row, last) for row in others]
        last = head[0]
    return sign * last


def _lowered(head, row, last):
    """A row behind one step of elimination in integers: the division leaves no rest."""
    return [(head[0] * number - row[0] * part) // last for number, part in zip(row[1:], head[1:])]


def _is_square(value):
    if not isinstance(value, (list, tuple)) or len(value) > 40:
        return False
    return all([isinstance(row, (list, tuple)) and is_row(tuple(row), len(value)) for row in value])
