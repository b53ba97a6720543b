"""Whether two tables tell the same everywhere, for all lengths, and where they do not."""

from sumdigits.closing import search
from sumdigits.copies import kept
from sumdigits.errors import BadTable
from sumdigits.papers import Verdict
from sumdigits.readings import told_words, value_behind
from sumdigits.tables import Table, check_alike, check_table
from sumdigits.walks import TableWalk


class Alike(Verdict):
    """Both tables have the same values at all readings: the readings are closed with the factors."""

    def __init__(self, readings, factors):
        self.readings = kept(readings)
        self.factors = kept(factors)

    def __eq__(self, other):
        return isinstance(other, Alike) and self.readings == other.readings and self.factors == other.factors

    def __bool__(self):
        return True


class Apart(Verdict):
    """The tables have these two values at the words, of the width 0 at the length."""

    def __init__(self, words, one, other):
        self.words = kept(words)
        self.one = kept(one)
        self.other = kept(other)

    def __eq__(self, other):
        return (isinstance(other, Apart) and self.words == other.words
                and self.one == other.one and self.other == other.other)

    def __bool__(self):
        return False


def alike(one, other):
    """An Alike if both tables tell the same at all readings, otherwise an Apart of the least one where they do not."""
    check_table(one, "one")
    check_table(other, "other")
    check_alike(one, other)
    found = search(TableWalk([one, other], [1, -1]))
    if found.odd is None:
        return Alike(tuple(found.readings), found.all_factors())
    words = told_words(found.odd, one.width)
    return Apart(words, value_behind(one, found.odd), value_behind(other, found.odd))


def first_apart(one, others):
    """The index of the first of several tables that is not alike to one, None if all are."""
    check_table(one, "one")
    if not isinstance(others, (list, tuple)):
        raise BadTable("others")
    for at, other in enumerate(others):
        if not isinstance(other, Table):
            raise BadTable(at)
    for at, other in enumerate(others):
        if not alike(one, other):
            return at
    return None
