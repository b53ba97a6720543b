"""Whether a table tells 0 everywhere, for all lengths, and where it does not."""

from sumdigits.closing import search
from sumdigits.copies import kept
from sumdigits.papers import Verdict
from sumdigits.readings import check_reading, told_words, value_behind, vector_behind
from sumdigits.tables import check_table
from sumdigits.walks import TableWalk


class Nought(Verdict):
    """The values at all readings are 0: the readings are closed with the factors."""

    def __init__(self, readings, factors):
        self.readings = kept(readings)
        self.factors = kept(factors)

    def __eq__(self, other):
        return isinstance(other, Nought) and self.readings == other.readings and self.factors == other.factors

    def __bool__(self):
        return True


class Somewhere(Verdict):
    """The value at the words, of the width 0 at the length, is not 0."""

    def __init__(self, words, value):
        self.words = kept(words)
        self.value = kept(value)

    def __eq__(self, other):
        return isinstance(other, Somewhere) and self.words == other.words and self.value == other.value

    def __bool__(self):
        return False


def vector(table, reading):
    """The vector behind a reading: a dict from all states to its numbers."""
    check_table(table, "table")
    check_reading(reading, table)
    numbers = vector_behind(table, reading)
    return {state: numbers.get(state, 0) for state in table.states}


def nought(table):
    """A Nought if the table tells 0 at all readings, otherwise a Somewhere of the least one at which it does not."""
    check_table(table, "table")
    found = search(TableWalk([table], [1]))
    if found.odd is None:
        return Nought(tuple(found.readings), found.all_factors())
    return Somewhere(told_words(found.odd, table.width), value_behind(table, found.odd))
