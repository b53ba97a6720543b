"""What any values are asked before the package reckons with them."""

from sumdigits.errors import BadBase, BadNumber

DIGITS = "0123"
FIGURES = "0123456789"
NAME_STARTS = "abcdefghijklmnopqrstuvwxyz"
NAME_SIGNS = "abcdefghijklmnopqrstuvwxyz0123456789"


def is_integer(value):
    """Whether a value is an int that is no bool."""
    return isinstance(value, int) and not isinstance(value, bool)


def is_between(value, low, high):
    """Whether a value is an integer within two bounds, both included."""
    return is_integer(value) and low <= value <= high


def is_row(value, width):
    """Whether a value is a tuple of so many integers."""
    return isinstance(value, tuple) and len(value) == width and all([is_integer(number) for number in value])


def is_name(value):
    """Whether a value is the name of a state."""
    if not isinstance(value, str) or not 1 <= len(value) <= 8:
        return False
    return value[0] in NAME_STARTS and value.strip(NAME_SIGNS) == ""


def has_digits(text, base):
    """Whether a string consists of digits of the base."""
    return text.strip(DIGITS[:base]) == ""


def is_letter(value, base, width):
    """Whether a value is a letter of this width in this base."""
    return isinstance(value, str) and len(value) == width and has_digits(value, base)


def letters_of(base, width):
    """The list of all letters of this width in this base, ascending."""
    letters = [""]
    for _ in range(width):
        letters = [letter + digit for letter in letters for digit in DIGITS[:base]]
    return letters


def power(base, length):
    """The base to the power of the length."""
    number = 1
    for _ in range(length):
        number = number * base
    return number


def check_base(base):
    """Refuse what is no base."""
    if not is_between(base, 2, 4):
        raise BadBase(base)


def check_length(length):
    """Refuse what is no length of a word."""
    if not is_between(length, 0, 100):
        raise BadNumber(length)
