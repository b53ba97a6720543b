"""Ranks: how many states a table needs at least, shown by a square of its values."""

from sumdigits.bases import FIRST_PRIME, Basis, kept_of, taken
from sumdigits.checks import is_between
from sumdigits.copies import kept
from sumdigits.parts import ended, without_zeros
from sumdigits.readings import are_readings, check_reading, value_behind
from sumdigits.spans import readings_ahead, readings_behind
from sumdigits.tables import check_table
from sumdigits.walks import BackWalk, TableWalk, vectors_behind


class Rank:
    """The square of as many readings ahead and behind has a determinant other than 0."""

    def __init__(self, number, ahead, behind):
        self.number = kept(number)
        self.ahead = kept(ahead)
        self.behind = kept(behind)

    def __eq__(self, other):
        return (isinstance(other, Rank) and self.number == other.number
                and self.ahead == other.ahead and self.behind == other.behind)


def rank(table):
    """The rank of a table, with the first readings ahead and behind that have it."""
    check_table(table, "table")
    ahead = readings_ahead(table)
    behind = readings_behind(table)
    rows = _rows_of([vector for _, vector in ahead], [vector for _, vector in behind])
    first = kept_of(rows)
    columns = [without_zeros({at: rows[at].get(place, 0) for at in first}) for place in range(len(behind))]
    last = kept_of(columns)
    return Rank(len(first), tuple([ahead[at][0] for at in first]), tuple([behind[at][0] for at in last]))


def _rows_of(vectors, others):
    """The rows of the values at readings ahead followed by readings behind."""
    return [without_zeros({at: ended(vector, other) for at, other in enumerate(others)}) for vector in vectors]


def value_at(table, ahead, behind):
    """The value at two readings, one after the other."""
    check_table(table, "table")
    check_reading(ahead, table)
    check_reading(behind, table)
    return value_behind(table, ahead + behind)


def shows_rank(table, value):
    """Whether a value is a Rank of so many readings ahead and behind whose square has a determinant other than 0."""
    check_table(table, "table")
    # No square of more rows than there are states has another determinant than 0.
    if not isinstance(value, Rank) or not is_between(value.number, 0, len(table.states)):
        return False
    for readings in (value.ahead, value.behind):
        if not are_readings(readings, table.base, table.width) or len(readings) != value.number:
            return False
    back = [reading[::-1] for reading in value.behind]
    rows = _rows_of(vectors_behind(TableWalk([table], [1]), value.ahead), vectors_behind(BackWalk(table), back))
    return _are_free(rows)


def _are_free(rows):
    """Whether no row depends on those ahead of it."""
    basis = Basis(FIRST_PRIME)
    for row in rows:
        if taken(basis, row) is not None:
            return False
    return True
