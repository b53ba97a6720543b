"""The values of tables at all pairs of numbers, for stores of one length and one size."""

from sumdigits.checks import power
from sumdigits.parts import ended
from sumdigits.walks import BackWalk, TableWalk


class Grid:
    """The values of a table of the width 2 at the words of so many digits, told by their numbers, below a size.

    Words are parted in two. The vectors behind the first parts and the values from each state on at the second parts
    are reckoned once; what the table tells at two words is the sum of the products of both.
    """

    def __init__(self, table, digits, size):
        self.table = table
        self.first = digits // 2
        self.second = digits - self.first
        self.share = power(table.base, self.second)
        self.size = size
        self.ahead = None
        self.behind = None
        self.rows = {}

    def row(self, number):
        """The dict from the numbers of second words to the values other than 0 there, for the first word's number."""
        if number not in self.rows:
            if self.ahead is None:
                self.ahead = _vectors_behind(TableWalk([self.table], [1]), self.table.base, self.first)
                self.behind = _vectors_ahead(BackWalk(self.table), self.table.base, self.second)
            self.rows[number] = self.reckoned(number)
        return self.rows[number]

    def reckoned(self, number):
        found = {}
        for high, vector in self.ahead.get(number // self.share, []):
            for low, ends in self.behind.get(number % self.share, []):
                at = high * self.share + low
                value = ended(vector, ends) if at < self.size else 0
                if value != 0:
                    found[at] = value
        return found


class Plan:
    """A scheme for stores of one length and one size: `model` is the scheme, and each plane has grids."""

    def __init__(self, model, digits, size):
        self.model = model
        self.digits = digits
        self.size = size
        self.changes = [Grid(plane.change, digits, size) for plane in model.planes]
        self.questions = [Grid(plane.question, digits, size) for plane in model.planes]


def _vectors_behind(walk, base, digits):
    """For the numbers of words the list of the pairs of a second word's number and the vector behind both, where it
    is not 0."""
    found = {0: [(0, walk.start)]}
    for _ in range(digits):
        found = _grown(walk, found, base, 1)
    return found


def _vectors_ahead(walk, base, digits):
    """Likewise with the values from each state on at both words."""
    found = {0: [(0, walk.start)]}
    share = 1
    for _ in range(digits):
        found = _grown(walk, found, 1, share)
        share = share * base
    return found


def _grown(walk, vectors, times, share):
    """The vectors with one letter more: numbers are taken times so much, digits count as much as the share."""
    found = {}
    for number, pairs in vectors.items():
        for letter in walk.letters:
            row = [(other * times + int(letter[1]) * share, walk.moved(vector, letter)) for other, vector in pairs]
            key = number * times + int(letter[0]) * share
            found.setdefault(key, []).extend([(other, vector) for other, vector in row if len(vector) > 0])
    return found
