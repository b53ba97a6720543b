"""Looks at the papers of cut."""

from sumdigits.checks import is_integer
from sumdigits.cuts import Torn, Whole, lost_at
from sumdigits.looks import are_closed
from sumdigits.readings import are_words
from sumdigits.schemes import check_scheme
from sumdigits.walks import CutWalk


def shows_cut(scheme, value):
    """Whether a value is a Whole with closed readings, or a Torn at which the lost part is worth, which is not 0."""
    check_scheme(scheme, "scheme")
    if isinstance(value, Whole):
        return are_closed(CutWalk(scheme), scheme.base, 3, value)
    if not isinstance(value, Torn) or not is_integer(value.worth) or value.worth == 0:
        return False
    if not are_words((value.entry, value.question, value.cell), scheme.base):
        return False
    return lost_at(scheme, value.entry, value.question, value.cell) == value.worth
