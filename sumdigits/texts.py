"""Texts of stores, of books of tables and schemes, and of papers of nought."""

from sumdigits.checks import is_integer, is_letter, is_name, is_row, letters_of
from sumdigits.errors import BadPaper, BadStore, TooMany
from sumdigits.noughts import Nought
from sumdigits.numerals import figures_of
from sumdigits.schemes import Scheme
from sumdigits.stores import GreatestStore, SumStore
from sumdigits.tables import Table


def write_store(store):
    """Three lines: the kind, the length and the size of a store, its scheme, and its entries."""
    if not isinstance(store, SumStore) and not isinstance(store, GreatestStore):
        raise BadStore("store")
    word = "sums" if isinstance(store, SumStore) else "greatest"
    return "\n".join([f"{word} {store.length} {len(store)}", str(store.scheme), figures_row(store.entries)])


def write_book(book):
    """A line for each name of a dict from names to tables and schemes."""
    if not isinstance(book, dict) or not all([_is_kept(name, value) for name, value in book.items()]):
        raise BadPaper("book")
    if len(book) > 50:
        raise TooMany("names", 50)
    if len(book) == 0:
        return "-"
    names = sorted([str(name) for name in book])
    return "\n".join([f"{_word_for(book[name])} {name} {book[name]}" for name in names])


def write_nought(paper):
    """A line for the width, one for each reading of a Nought, and one for each of its factors."""
    width = _width_of(paper)
    lines = [f"nought {width}"]
    for reading in paper.readings:
        lines.append(" ".join(["reading"] + [shown(letter) for letter in reading]))
    for at in range(len(paper.readings)):
        for letter in letters_of(4, width):
            if (at, letter) in paper.factors:
                divisor, numbers = paper.factors[at, letter]
                lines.append(f"factor {at} {shown(letter)} {figures_row((divisor,) + numbers)}")
    return "\n".join(lines)


def shown(word):
    """A word or a letter as texts and answers write it."""
    return "-" if word == "" else word


def figures_row(numbers):
    """Some integers with single spaces between."""
    return " ".join([figures_of(number) for number in numbers])


def _is_kept(name, value):
    return is_name(name) and (isinstance(value, Table) or isinstance(value, Scheme))


def _word_for(value):
    return "table" if isinstance(value, Table) else "scheme"


def _width_of(paper):
    """The width of the letters of a paper that can be written; any other value is refused."""
    if not isinstance(paper, Nought) or not _are_tuples(paper.readings) or not _have_keys(paper.factors):
        raise BadPaper("nought")
    letters = [letter for reading in paper.readings for letter in reading] + [letter for _, letter in paper.factors]
    width = len(letters[0]) if len(letters) > 0 and isinstance(letters[0], str) else 0
    if width > 3 or not all([is_letter(letter, 4, width) for letter in letters]):
        raise BadPaper("nought")
    many = len(paper.readings)
    if not all([_is_factor(at, factor, many) for (at, _), factor in paper.factors.items()]):
        raise BadPaper("nought")
    return width


def _are_tuples(readings):
    """Whether a value is a tuple of 1 to 40 tuples."""
    if not isinstance(readings, tuple) or not 1 <= len(readings) <= 40:
        return False
    return all([isinstance(reading, tuple) for reading in readings])


def _have_keys(factors):
    """Whether a value is a dict whose keys are pairs."""
    return isinstance(factors, dict) and all([isinstance(key, tuple) and len(key) == 2 for key in factors])


def _is_factor(at, factor, many):
    """Whether an index and a value belong to so many readings."""
    if not is_integer(at) or not 0 <= at < many:
        return False
    if not isinstance(factor, tuple) or len(factor) != 2 or not is_integer(factor[0]):
        return False
    return factor[0] >= 1 and is_row(factor[1], many)
