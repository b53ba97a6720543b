"""Whether a scheme works for stores of any number of cells: what is lost when cells are cut off."""

from sumdigits.closing import search
from sumdigits.copies import kept
from sumdigits.known import below
from sumdigits.papers import Verdict
from sumdigits.schemes import check_scheme
from sumdigits.walks import CutWalk
from sumdigits.words import check_words, number_of, words_of


class Whole(Verdict):
    """All lost parts are 0: the readings are closed with the factors."""

    def __init__(self, readings, factors):
        self.readings = kept(readings)
        self.factors = kept(factors)

    def __eq__(self, other):
        return isinstance(other, Whole) and self.readings == other.readings and self.factors == other.factors

    def __bool__(self):
        return True


class Torn(Verdict):
    """The lost part at the entry, the question and the cell is worth, which is not 0."""

    def __init__(self, entry, question, cell, worth):
        self.entry = kept(entry)
        self.question = kept(question)
        self.cell = kept(cell)
        self.worth = kept(worth)

    def __eq__(self, other):
        return (isinstance(other, Torn) and self.entry == other.entry and self.question == other.question
                and self.cell == other.cell and self.worth == other.worth)

    def __bool__(self):
        return False


def cut(scheme):
    """A Whole if the scheme is whole, otherwise a Torn of the least entry, question and cell."""
    check_scheme(scheme, "scheme")
    found = search(CutWalk(scheme))
    if found.odd is None:
        return Whole(tuple(found.readings), found.all_factors())
    entry, question, cell = words_of(found.odd, 3)
    return Torn(entry, question, cell, lost_at(scheme, entry, question, cell))


def lost_at(scheme, entry, question, cell):
    """The lost part: what a cell above the entry and the question adds to the answer."""
    check_scheme(scheme, "scheme")
    check_words((entry, question, cell), scheme.base)
    number = number_of(cell, scheme.base)
    if number <= number_of(entry, scheme.base) or number <= number_of(question, scheme.base):
        return 0
    return sum([plane.change.tell(entry, cell) * plane.question.tell(question, cell) for plane in scheme.planes])


def lost(scheme):
    """A table of the width 3 with the lost parts."""
    check_scheme(scheme, "scheme")
    less = below(scheme.base)
    above = less.placed(3, 0, 2) * less.placed(3, 1, 2)
    parts = [above * plane.change.placed(3, 0, 2) * plane.question.placed(3, 1, 2) for plane in scheme.planes]
    found = parts[0]
    for part in parts[1:]:
        found = found + part
    return found
