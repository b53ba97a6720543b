"""What texts of stores, of books and of papers of nought tell, and where they cannot be read."""

from sumdigits.checks import is_letter, is_name, power
from sumdigits.errors import BadText
from sumdigits.noughts import Nought
from sumdigits.numerals import number_in
from sumdigits.schemes import Scheme
from sumdigits.stores import GreatestStore, SumStore, filled
from sumdigits.tables import Table


class Line:
    """The words of a line; `at` tells the index of the line."""

    def __init__(self, lines, at):
        if at >= len(lines):
            raise BadText(len(lines), 0)
        self.at = at
        self.words = lines[at].split(" ")

    def word_at(self, index):
        """The word of an index."""
        if index >= len(self.words):
            raise BadText(self.at, len(self.words))
        return self.words[index]

    def number_at(self, index, low, high):
        """The number that a word writes, from low on up to high, if that is not None."""
        number = number_in(self.word_at(index), 60)
        if number is None or (low is not None and number < low) or (high is not None and number > high):
            raise BadText(self.at, index)
        return number

    def letter_at(self, index, width):
        """The letter of this width that a word writes."""
        word = self.word_at(index)
        if width == 0 and word == "-":
            return ""
        if width == 0 or not is_letter(word, 4, width):
            raise BadText(self.at, index)
        return word

    def numbers_from(self, index, many, low):
        """The tuple of so many numbers that the words from an index on write, behind which there are no words."""
        found = tuple([self.number_at(index + more, low, None) for more in range(many)])
        self.check_end(index + many)
        return found

    def check_end(self, index):
        """Refuse words from an index on."""
        if len(self.words) > index:
            raise BadText(self.at, index)

    def object_from(self, kind, index):
        """The table or the scheme that the words from an index on write."""
        try:
            return read_kind(kind, " ".join(self.words[index:]))
        except BadText as error:
            raise BadText(self.at, error.word + index) from None


def read_kind(kind, text):
    """The scheme or the table with a text."""
    return Scheme.read(text) if kind == "scheme" else Table.read(text)


def read_store(text):
    """The store with a text, without deeds."""
    lines = _lines_in(text)
    head = Line(lines, 0)
    kind = head.word_at(0)
    if kind not in ("sums", "greatest"):
        raise BadText(0, 0)
    length, size = head.number_at(1, 0, 8), head.number_at(2, 1, None)
    head.check_end(3)
    scheme = Line(lines, 1).object_from("scheme", 0)
    if size > power(scheme.base, length):
        raise BadText(0, 2)
    entries = Line(lines, 2).numbers_from(0, size, 0 if kind == "greatest" else None)
    _check_last(lines, 3)
    store = SumStore(scheme, length, size) if kind == "sums" else GreatestStore(scheme, length, size)
    return filled(store, entries)


def read_book(text):
    """The dict from names to tables and schemes with a text."""
    lines = _lines_in(text)
    book = {}
    if lines[0].split(" ")[0] == "-":
        Line(lines, 0).check_end(1)
        _check_last(lines, 1)
        return book
    last = ""
    for at in range(len(lines)):
        line = Line(lines, at)
        kind = line.word_at(0)
        if at == 50 or kind not in ("table", "scheme"):
            raise BadText(at, 0)
        name = line.word_at(1)
        if not is_name(name) or name <= last:
            raise BadText(at, 1)
        book[name] = line.object_from(kind, 2)
        last = name
    return book


def read_nought(text):
    """The Nought with a text."""
    lines = _lines_in(text)
    head = Line(lines, 0)
    if head.word_at(0) != "nought":
        raise BadText(0, 0)
    width = head.number_at(1, 0, 3)
    head.check_end(2)
    readings = _read_readings(lines, width)
    factors = _read_factors(lines, width, len(readings))
    if width > 0 and len(factors) == 0 and not any(readings):
        raise BadText(0, 1)
    return Nought(readings, factors)


def _lines_in(text):
    """The lines of a text."""
    if not isinstance(text, str):
        raise BadText(0, 0)
    return text.split("\n")


def _check_last(lines, many):
    """Refuse lines behind so many."""
    if len(lines) > many:
        raise BadText(many, 0)


def _read_readings(lines, width):
    """The tuple of the readings that the lines behind the first one tell."""
    found = []
    at = 1
    while at == 1 or (at < len(lines) and Line(lines, at).word_at(0) == "reading"):
        line = Line(lines, at)
        if at == 41 or line.word_at(0) != "reading":
            raise BadText(at, 0)
        found.append(tuple([line.letter_at(index, width) for index in range(1, len(line.words))]))
        at = at + 1
    return tuple(found)


def _read_factors(lines, width, many):
    """The factors that the lines behind so many readings tell."""
    factors = {}
    last = (0, None)
    for at in range(1 + many, len(lines)):
        line = Line(lines, at)
        if line.word_at(0) != "factor":
            raise BadText(at, 0)
        index = line.number_at(1, last[0], many - 1)
        letter = line.letter_at(2, width)
        if last[1] is not None and index == last[0] and letter <= last[1]:
            raise BadText(at, 2)
        divisor = line.number_at(3, 1, None)
        factors[index, letter] = (divisor, line.numbers_from(4, many, None))
        last = (index, letter)
    return factors
