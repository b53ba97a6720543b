"""Closed readings, or the least reading behind which a vector does not end in 0.

What is asked of all readings is told by vectors: lists of numbers, one behind the empty reading, and moves, a
list of pairs (letter, rows of (from, to, weight)), the letters ascending: behind a reading and the letter the
number at `to` is the sum of the weights times the numbers at `from`.
"""

from math import lcm

from sumdigits.bases import FIRST_PRIME, empty_basis, taken
from sumdigits.checks import letters_of
from sumdigits.errors import TooMany
from sumdigits.parts import behind, ended, flat_steps
from sumdigits.words import words_of


class Search:
    """The readings that are kept, none of whose vectors depends on those ahead of it.

    odd is the first reading that is kept whose vector does not end in 0, None as long as there is none.
    """

    def __init__(self, start, ends):
        self.ends = ends
        self.basis = empty_basis(len(start), FIRST_PRIME)
        self.hint = 1
        self.readings = []
        self.vectors = []
        self.found = {}
        self.odd = None
        self.look_at((), start)

    def look_at(self, reading, vector):
        """Keep the reading if its vector does not depend on those that are kept; return the factors for it."""
        basis, told = taken(self.basis, vector, self.hint)
        if basis is None:
            self.hint = lcm(self.hint, told[0])
            return told
        if len(self.readings) == 40:
            raise TooMany("readings", 40)
        if sum([number * end for number, end in zip(vector, self.ends)]) != 0:
            self.odd = reading
        self.basis = basis
        self.hint = 1
        self.readings.append(reading)
        self.vectors.append(vector)
        return 1, (0,) * (len(self.readings) - 1) + (1,)

    def go_on(self, at, moves):
        """Look at the readings with one letter more than the one of this index."""
        for letter, rows in moves:
            if self.odd is None:
                reading = self.readings[at] + (letter,)
                self.found[at, letter] = self.look_at(reading, _moved(self.vectors[at], rows))

    def all_factors(self):
        """The factors with which the readings are closed."""
        many = len(self.readings)
        return {key: (divisor, numbers + (0,) * (many - len(numbers)))
                for key, (divisor, numbers) in self.found.items()}


def _moved(vector, rows):
    numbers = [0] * len(vector)
    for ahead, after, weight in rows:
        if vector[ahead] != 0:
            numbers[after] = numbers[after] + vector[ahead] * weight
    return tuple(numbers)


def search(start, moves, ends):
    """The search behind all its readings: they are closed, or it has found the least one that does not end in 0."""
    if len(start) > 400:
        raise TooMany("numbers", 400)
    found = Search(start, ends)
    at = 0
    while at < len(found.readings) and found.odd is None:
        found.go_on(at, moves)
        at = at + 1
    return found


def search_tables(tables, signs):
    """The search for the sum of so many times the values of tables over one base and of one width."""
    spots = [(at, state) for at, table in enumerate(tables) for state in table.states]
    places = {spot: place for place, spot in enumerate(spots)}
    start = tuple([1 if state == tables[at].start else 0 for at, state in spots])
    ends = [tables[at].ends.get(state, 0) * signs[at] for at, state in spots]
    rows = {letter: [] for letter in letters_of(tables[0].base, tables[0].width)}
    for at, table in enumerate(tables):
        for (state, letter, goal), weight in flat_steps(table.steps).items():
            rows[letter].append((places[at, state], places[at, goal], weight))
    return search(start, list(rows.items()), ends)


def value_behind(table, reading):
    """The value of a table of any width at a reading."""
    vector = {table.start: 1}
    for letter in reading:
        vector = behind(table.steps, vector, letter)
    return ended(vector, table.ends)


def told_words(reading, width):
    """The words of a reading; of the width 0, where there are no words, their length."""
    if width == 0:
        return len(reading)
    return words_of(reading, width)
