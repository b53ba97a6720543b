"""Looks at the papers of judge."""

from sumdigits.checks import is_integer
from sumdigits.judged import Right, Wrong, told_at
from sumdigits.looks import are_closed
from sumdigits.readings import are_words
from sumdigits.schemes import check_wanted
from sumdigits.walks import JudgeWalk


def shows_judged(scheme, wanted, value):
    """Whether a value is a Right with closed readings, or a Wrong at which both tables tell these unlike integers."""
    check_wanted(scheme, wanted)
    if isinstance(value, Right):
        return are_closed(JudgeWalk(scheme, wanted), scheme.base, 2, value)
    if not isinstance(value, Wrong) or not is_integer(value.told) or not is_integer(value.due):
        return False
    if value.told == value.due or not are_words((value.entry, value.question), scheme.base):
        return False
    due = wanted.tell(value.entry, value.question)
    return due == value.due and told_at(scheme, value.entry, value.question) == value.told
