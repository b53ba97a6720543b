"""Looks at the papers of alike."""

from sumdigits.alike import Alike, Apart
from sumdigits.checks import is_integer
from sumdigits.looks import are_closed
from sumdigits.readings import told_reading, value_behind
from sumdigits.tables import check_alike, check_table
from sumdigits.walks import TableWalk


def shows_alike(one, other, value):
    """Whether a value is an Alike with closed readings, or an Apart at which the tables tell these unlike values."""
    check_table(one, "one")
    check_table(other, "other")
    check_alike(one, other)
    if isinstance(value, Alike):
        return are_closed(TableWalk([one, other], [1, -1]), one.base, one.width, value)
    if not isinstance(value, Apart) or not is_integer(value.one) or not is_integer(value.other):
        return False
    reading = told_reading(value.words, one.base, one.width)
    if reading is None or value.one == value.other:
        return False
    return value_behind(one, reading) == value.one and value_behind(other, reading) == value.other
