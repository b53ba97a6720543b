"""Looks at closed readings: they multiply and add, and search nothing."""

from sumdigits.bases import less_rows, sparse
from sumdigits.checks import is_integer, is_letter, is_row
from sumdigits.readings import are_readings
from sumdigits.walks import vectors_behind


def are_closed(walk, base, width, paper):
    """Whether the readings of a paper, letters of this width in this base, are closed with just its factors."""
    readings = paper.readings
    if not are_readings(readings, base, width) or len(readings) == 0 or readings[0] != ():
        return False
    if not _are_factors(paper.factors, len(readings), base, width):
        return False
    vectors = vectors_behind(walk, readings)
    for vector in vectors:
        if walk.end_of(vector) != 0:
            return False
    for at, vector in enumerate(vectors):
        if not _fit(walk.all_moved(vector), vectors, at, paper.factors):
            return False
    return True


def _are_factors(value, many, base, width):
    """Whether a value has a divisor and so many numbers for each of so many readings and each letter, and no more."""
    if not isinstance(value, dict):
        return False
    letters = 1
    for _ in range(width):
        letters = letters * base
    if len(value) != many * letters:
        return False
    return all([_is_key(key, many, base, width) and _is_factor(factor, many) for key, factor in value.items()])


def _is_key(value, many, base, width):
    if not isinstance(value, tuple) or len(value) != 2:
        return False
    return is_integer(value[0]) and 0 <= value[0] < many and is_letter(value[1], base, width)


def _is_factor(value, many):
    if not isinstance(value, tuple) or len(value) != 2:
        return False
    return is_integer(value[0]) and value[0] >= 1 and is_row(value[1], many)


def _fit(moved, vectors, at, factors):
    """Whether the vectors behind one letter more are what the factors tell."""
    for letter, vector in moved:
        divisor, numbers = factors[at, letter]
        times = {column: number * divisor for column, number in vector.items()}
        if len(less_rows(times, vectors, sparse(numbers))) > 0:
            return False
    return True
