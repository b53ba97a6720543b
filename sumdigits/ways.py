"""How many ways tables have, and how many cells changes touch and questions read."""

from sumdigits.checks import check_length, letters_of
from sumdigits.copies import kept
from sumdigits.errors import BadPlane
from sumdigits.forks import Forks
from sumdigits.moves import Trail
from sumdigits.papers import Verdict
from sumdigits.readings import told_words
from sumdigits.schemes import check_scheme, row_of
from sumdigits.tables import Table, check_table


class OneWay(Verdict):
    """No reading has more than one way to an end."""

    def __eq__(self, other):
        return isinstance(other, OneWay)

    def __bool__(self):
        return True


class TwoWays(Verdict):
    """The words, of the width 0 the length, have more than one way to an end."""

    def __init__(self, words):
        self.words = kept(words)

    def __eq__(self, other):
        return isinstance(other, TwoWays) and self.words == other.words

    def __bool__(self):
        return False


def ways(table):
    """The table with all weights 1: its value is the number of ways to an end."""
    check_table(table, "table")
    steps = {key: {goal: 1 for goal in goals} for key, goals in table.steps.items()}
    return Table(table.base, table.width, table.start, steps, {state: 1 for state in table.ends})


def one_way(table):
    """A OneWay if no reading has more than one way to an end, otherwise a TwoWays of the least one that has."""
    check_table(table, "table")
    letters = letters_of(table.base, table.width)
    forks = Forks(table)
    trail = Trail(forks.start)
    at = 0
    while at < len(trail.places):
        for letter in letters:
            place = forks.moved(trail.places[at], letter)
            if place is not None:
                trail.put(place, at, letter)
                if forks.is_told(place):
                    return TwoWays(told_words(trail.letters_to(len(trail.places) - 1), table.width))
        at = at + 1
    return OneWay()


def touched(scheme, entry):
    """The pairs of a plane's index and a cell that a change of the entry touches, ascending."""
    check_scheme(scheme, "scheme")
    return _cells_in([plane.change for plane in scheme.planes], entry)


def read_by(scheme, question):
    """The pairs of a plane's index and a cell that the question reads, ascending."""
    check_scheme(scheme, "scheme")
    return _cells_in([plane.question for plane in scheme.planes], question)


def _cells_in(tables, word):
    rows = [sorted([str(cell) for cell in row_of(table, word)]) for table in tables]
    return tuple([(at, cell) for at, row in enumerate(rows) for cell in row])


def load(scheme, length):
    """How many cells all entries of so many digits touch, and how many all questions read."""
    check_scheme(scheme, "scheme")
    check_length(length)
    for plane in scheme.planes:
        if not one_way(plane.change):
            raise BadPlane("change")
        if not one_way(plane.question):
            raise BadPlane("question")
    return (sum([ways(plane.change).total(length) for plane in scheme.planes]),
            sum([ways(plane.question).total(length) for plane in scheme.planes]))
