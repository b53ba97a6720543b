"""Schemes of cells: planes with a table for changes and a table for questions."""

from sumdigits.checks import DIGITS, is_between
from sumdigits.errors import BadPlane, BadScheme, BadText, BadWidth, BadWord, NoPlane, TooMany, Unlike
from sumdigits.parts import behind, ended
from sumdigits.table_text import read_parts, word_at, words_in
from sumdigits.tables import Table, check_table, has_weight_below_0
from sumdigits.words import is_word


class Plane:
    """A plane: what a change of an entry adds to cells, and which cells a question adds up."""

    def __init__(self, change, question):
        if not isinstance(change, Table):
            raise BadPlane("change")
        if not isinstance(question, Table):
            raise BadPlane("question")
        if change.base != question.base:
            raise Unlike("base")
        for table in (change, question):
            if table.width != 2:
                raise BadWidth(table.width)
        self.change = change
        self.question = question

    def answers(self):
        """A table with the values that the plane alone answers."""
        return self.change >> ~self.question

    def __invert__(self):
        return Plane(self.question, self.change)

    def __eq__(self, other):
        return isinstance(other, Plane) and self.change == other.change and self.question == other.question

    def __str__(self):
        return f"{self.change} ; {self.question}"


class Scheme:
    """A scheme: one to eight planes over one base, each with cells of its own."""

    def __init__(self, *planes):
        if len(planes) == 0 or not all([isinstance(plane, Plane) for plane in planes]):
            raise BadScheme("planes")
        if len(planes) > 8:
            raise TooMany("planes", 8)
        base = planes[0].change.base
        if not all([plane.change.base == base for plane in planes]):
            raise Unlike("base")
        self.planes = planes
        self.base = base

    @classmethod
    def read(cls, text):
        """The scheme with this text."""
        words = words_in(text)
        parts = _read_all_parts(words)
        tables = [Table(base, width, start, steps, ends) for base, width, start, steps, ends in parts]
        planes = [Plane(change, question) for change, question in zip(tables[::2], tables[1::2])]
        return Scheme(*planes)

    def answers(self):
        """A table with the values of the answer table."""
        found = self.planes[0].answers()
        for plane in self.planes[1:]:
            found = found + plane.answers()
        return found

    def __add__(self, other):
        if not isinstance(other, Scheme):
            raise BadScheme("other")
        if self.base != other.base:
            raise Unlike("base")
        planes = self.planes + other.planes
        return Scheme(*planes)

    def __invert__(self):
        planes = [~plane for plane in self.planes]
        return Scheme(*planes)

    def __getitem__(self, at):
        if not is_between(at, 0, len(self.planes) - 1):
            raise NoPlane(at)
        return self.planes[at]

    def __len__(self):
        return len(self.planes)

    def __iter__(self):
        return iter(self.planes)

    def __eq__(self, other):
        return isinstance(other, Scheme) and self.planes == other.planes

    def __str__(self):
        return " | ".join([str(plane) for plane in self.planes])


def check_scheme(value, name):
    """Refuse a parameter of this name that is no scheme."""
    if not isinstance(value, Scheme):
        raise BadScheme(name)


def check_wanted(scheme, wanted):
    """Refuse what is no scheme, no wanted table, and what does not go together."""
    check_scheme(scheme, "scheme")
    check_table(wanted, "wanted")
    if scheme.base != wanted.base:
        raise Unlike("base")
    if wanted.width != 2:
        raise BadWidth(wanted.width)


def check_weights(scheme):
    """Refuse a scheme with a weight below 0."""
    if any([has_weight_below_0(plane.change) or has_weight_below_0(plane.question) for plane in scheme.planes]):
        raise BadScheme("weights")


def _read_all_parts(words):
    """The parts of the tables of a scheme, two for each plane."""
    at, parts = read_parts(words, 0, [2, 3, 4], [2])
    found = [parts]
    while at < len(words) or len(found) % 2 == 1:
        if word_at(words, at) != _word_behind(len(found)):
            raise BadText(0, at)
        at, parts = read_parts(words, at + 1, [parts[0]], [2])
        found.append(parts)
    return found


def _word_behind(many):
    """The word that parts so many tables from the next one, None where no table can follow."""
    if many == 16:
        return None
    return "|" if many % 2 == 0 else ";"


def row_of(table, word):
    """A dict from the words behind the word at which the table is not 0 to its values there."""
    check_table(table, "table")
    if table.width != 2:
        raise BadWidth(table.width)
    if not is_word(word, table.base) or len(word) > 6:
        raise BadWord(word)
    vectors = {"": {table.start: 1}}
    for digit in word:
        vectors = {ahead + cell: behind(table.steps, numbers, digit + cell)
                   for ahead, numbers in vectors.items() for cell in DIGITS[:table.base]}
    values = {cells: ended(numbers, table.ends) for cells, numbers in vectors.items()}
    return {cells: values[cells] for cells in values if values[cells] != 0}
