"""The spots of a scheme, in sets that go on letter by letter.

A set of spots is an integer: the planes stand one behind the other in its bits, and in each of them the states of the
question table, with a row of bits for the states of the change table.
"""

from sumdigits.checks import DIGITS
from sumdigits.moves import Moves, bits_of


class PlaneSpots:
    """The spots of a plane of this index; in sets their bits stand behind as many as the shift tells."""

    def __init__(self, plane, at, shift):
        self.change = Moves(plane.change)
        self.question = Moves(plane.question)
        self.wide = len(self.change.states)
        self.shift = shift
        self.texts = [f"{at} {state} {mate}" for mate in self.question.states for state in self.change.states]
        self.start = self.set_of(self.change.start, self.question.start)
        self.ends = self.set_of(self.change.ends, self.question.ends)

    def set_of(self, mask, mates):
        """The spots of these states of the change table and of those of the question table."""
        return self.spread(mask, bits_of(mates))

    def spread(self, mask, mates):
        found = 0
        for mate in mates:
            found = found | (mask << (self.shift + mate * self.wide))
        return found

    def rows_in(self, spots):
        """The pairs of the index of a state of the question table and the states of the change table beside it."""
        full = (1 << self.wide) - 1
        rows = [(mate, (spots >> (self.shift + mate * self.wide)) & full) for mate in range(len(self.question.states))]
        return [(mate, row) for mate, row in rows if row != 0]

    def moved(self, rows, entry, question):
        """The spots behind steps by a letter of an entry and a cell, and by one of a question and the cell."""
        found = 0
        for mate, row in rows:
            goals = self.question.goals.get((mate, question), [])
            if len(goals) > 0:
                found = found | self.spread(self.change.moved(row, entry), goals)
        return found


class Spots:
    """The spots of all planes. `start` and `ends` are the sets of those of the starts, and of those whose two states
    both have ends; `texts` tells the text of each bit."""

    def __init__(self, scheme):
        parts = []
        texts = []
        for at, plane in enumerate(scheme.planes):
            part = PlaneSpots(plane, at, len(texts))
            parts.append(part)
            texts.extend(part.texts)
        self.parts = parts
        self.texts = texts
        self.digits = DIGITS[:scheme.base]
        self.start = sum([part.start for part in parts])
        self.ends = sum([part.ends for part in parts])
        self.known = {}

    def moved(self, spots, letter):
        """The spots behind a letter of an entry and a question, for all cells."""
        key = (spots, letter)
        if key not in self.known:
            found = 0
            for part in self.parts:
                rows = part.rows_in(spots)
                for digit in self.digits:
                    found = found | part.moved(rows, letter[0] + digit, letter[1] + digit)
            self.known[key] = found
        return self.known[key]


class Cover:
    """The pairs of spots of a scheme and marks of a wanted table that words lead to, each a pair of sets."""

    def __init__(self, scheme, wanted):
        self.spots = Spots(scheme)
        self.marks = Moves(wanted)
        self.start = (self.spots.start, self.marks.start)

    def moved(self, pair, letter):
        """The pair behind one letter more."""
        return self.spots.moved(pair[0], letter), self.marks.moved(pair[1], letter)

    def ends_at(self, pair):
        """Whether there is a cell, and whether the wanted table is above 0."""
        return (pair[0] & self.spots.ends) != 0, (pair[1] & self.marks.ends) != 0

    def is_odd(self, pair):
        """Whether the spots are open and the marks are not, or the other way about."""
        told, due = self.ends_at(pair)
        return told != due
