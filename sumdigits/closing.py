"""Closed readings, or the least reading behind which a vector does not end in 0."""

from sumdigits.bases import FIRST_PRIME, Basis, as_tuple, taken
from sumdigits.errors import TooMany


class Search:
    """The readings of a walk that are kept, none of whose vectors depends on those ahead of it.

    odd is the first reading that is kept whose vector does not end in 0, None as long as there is none.
    """

    def __init__(self, walk):
        self.walk = walk
        self.basis = Basis(FIRST_PRIME)
        self.readings = []
        self.vectors = []
        self.found = {}
        self.odd = None
        self.look_at((), walk.start)

    def look_at(self, reading, vector):
        """Keep the reading if its vector does not depend on those that are kept; return the factors for it."""
        if len(vector) == 0:
            return 1, {}
        told = taken(self.basis, vector)
        if told is not None:
            return told
        if len(self.readings) == 40:
            raise TooMany("readings", 40)
        if self.walk.end_of(vector) != 0:
            self.odd = reading
        self.readings.append(reading)
        self.vectors.append(vector)
        return 1, {len(self.readings) - 1: 1}

    def go_on(self, at):
        """Look at the readings with one letter more than the one of this index."""
        reading = self.readings[at]
        moved = self.walk.all_moved(self.vectors[at])
        for letter, vector in moved:
            if self.odd is None:
                self.found[at, letter] = self.look_at(reading + (letter,), vector)

    def all_factors(self):
        """The factors with which the readings are closed."""
        many = len(self.readings)
        return {key: (divisor, as_tuple(numbers, many)) for key, (divisor, numbers) in self.found.items()}


def search(walk):
    """The search behind all its readings: they are closed, or it has found the least one that does not end in 0."""
    if walk.many > 400:
        raise TooMany("numbers", 400)
    found = Search(walk)
    at = 0
    while at < len(found.readings) and found.odd is None:
        found.go_on(at)
        at = at + 1
    return found
