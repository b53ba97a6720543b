"""Looks at the papers of nought."""

from sumdigits.checks import is_integer
from sumdigits.looks import are_closed
from sumdigits.noughts import Nought, Somewhere
from sumdigits.readings import told_reading, value_behind
from sumdigits.tables import check_table
from sumdigits.walks import TableWalk


def shows_nought(table, value):
    """Whether a value is a Nought with closed readings, or a Somewhere at which the table tells this value, not 0."""
    check_table(table, "table")
    if isinstance(value, Nought):
        return are_closed(TableWalk([table], [1]), table.base, table.width, value)
    if not isinstance(value, Somewhere) or not is_integer(value.value) or value.value == 0:
        return False
    reading = told_reading(value.words, table.base, table.width)
    return reading is not None and value_behind(table, reading) == value.value
