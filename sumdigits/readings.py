"""Readings of tables of any width: their values, and how papers tell them."""

from sumdigits.checks import is_between, is_letter
from sumdigits.errors import BadLetter, BadWord
from sumdigits.parts import behind, ended
from sumdigits.words import is_word, parted_letters, side_by_side


def check_reading(value, table):
    """Refuse what is no reading for a table."""
    if not isinstance(value, tuple) or len(value) > 100:
        raise BadWord(value)
    for letter in value:
        if not is_letter(letter, table.base, table.width):
            raise BadLetter(letter)


def are_readings(value, base, width):
    """Whether a value is a tuple of at most 40 readings of letters of this width in this base."""
    if not isinstance(value, tuple) or len(value) > 40:
        return False
    return all([_is_reading(part, base, width) for part in value])


def _is_reading(value, base, width):
    if not isinstance(value, tuple) or len(value) > 100:
        return False
    return all([is_letter(letter, base, width) for letter in value])


def vector_behind(table, reading):
    """The vector behind a reading; states with the number 0 can be missing."""
    numbers = {table.start: 1}
    for letter in reading:
        numbers = behind(table.steps, numbers, letter)
    return numbers


def value_behind(table, reading):
    """The value of a table at a reading."""
    return ended(vector_behind(table, reading), table.ends)


def told_words(letters, width):
    """The words of which these are the letters; of the width 0, where there are no words, their length."""
    if width == 0:
        return len(letters)
    return parted_letters(letters, width)


def told_reading(value, base, width):
    """The reading that told_words tells so, letters of this width in this base; None for any other value."""
    if width == 0:
        return ("",) * value if is_between(value, 0, 100) else None
    if not isinstance(value, tuple) or len(value) != width or not are_words(value, base):
        return None
    return side_by_side(value)


def are_words(values, base):
    """Whether some values are words of one length."""
    if not all([is_word(value, base) for value in values]):
        return False
    return all([len(value) == len(values[0]) for value in values])
