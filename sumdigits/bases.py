"""Rows of integers that do not depend on one another, and what other rows are made of.

Elimination in integers reckons with numbers as long as determinants, even where the answer is short. So rows
are inverted modulo a power of a prime, and the fractions that a row is made of are told by their digits in the
base of this power, as many as they need. What is told is always tested in integers: a row that depends on
others modulo the prime alone leads to another prime.
"""

from math import gcd, isqrt, lcm

FIRST_PRIME = 2147483647


class Basis:
    """Rows that do not depend on one another modulo a prime.

    columns has for each column the tuple of its numbers. pivots are as many columns as there are rows, in which
    the rows have an inverse modulo the modulus, a power of the prime: inverse has its lines, one for each row.
    """

    def __init__(self, prime, rows, columns, pivots, inverse):
        self.prime = prime
        self.modulus = prime ** 17
        self.rows = rows
        self.columns = columns
        self.pivots = pivots
        self.inverse = inverse


def empty_basis(width, prime):
    """The basis without rows."""
    return Basis(prime, (), [()] * width, [], [])


def taken(basis, row, hint):
    """A pair: the basis with the row and None; or, if the row depends on it, None and the pair that multiples tells."""
    grown = _grown(basis, row)
    if grown is not None:
        return grown, None
    told = _lifted(basis, row, hint)
    if told is None:
        return _grown_anew(basis, row), None
    return None, told


def multiples(basis, row, hint):
    """None if the row depends on none of the rows; otherwise the least divisor from 1 on, and the integers by
    which the rows add up to divisor times the row. A hint is an integer from 1 on that the divisor may divide."""
    if _free_column(basis, _less_rows(basis, row, _leaning(basis, row))) is not None:
        return None
    return _lifted(basis, row, hint)


def all_depend(basis, rows):
    """Whether each of some rows depends on those of the basis."""
    hint = 1
    for row in rows:
        if len(basis.rows) < len(row):
            told = multiples(basis, row, hint)
            if told is None:
                return False
            hint = lcm(hint, told[0])
    return True


def _leaning(basis, row):
    """The multiples of the rows, modulo the modulus, that add up to the row in the pivots."""
    picked = [row[column] % basis.modulus for column in basis.pivots]
    return [sum([number * part for number, part in zip(picked, line)]) % basis.modulus for line in basis.inverse]


def _less_rows(basis, row, numbers):
    """The row less so many times each row."""
    return [part - sum([number * item for number, item in zip(numbers, column)])
            for part, column in zip(row, basis.columns)]


def _free_column(basis, rest):
    """The first column in which a row is not 0 modulo the prime, or None."""
    for column, number in enumerate(rest):
        if number % basis.prime != 0:
            return column
    return None


def _grown(basis, row):
    """The basis with one row more, None if the row depends on it modulo the prime."""
    lean = _leaning(basis, row)
    rest = _less_rows(basis, row, lean)
    pivot = _free_column(basis, rest)
    if pivot is None:
        return None
    modulus = basis.modulus
    share = _inverse_of(rest[pivot], modulus)
    numbers = basis.columns[pivot]
    over = [sum([line[at] * number for line, number in zip(basis.inverse, numbers)]) * share % modulus
            for at in range(len(basis.pivots))]
    inverse = [[(part + number * factor) % modulus for part, factor in zip(line, over)] + [-number * share % modulus]
               for line, number in zip(basis.inverse, lean)]
    last = [-factor % modulus for factor in over] + [share]
    columns = [column + (number,) for column, number in zip(basis.columns, row)]
    return Basis(basis.prime, basis.rows + (row,), columns, basis.pivots + [pivot], inverse + [last])


def _inverse_of(number, modulus):
    """The inverse of a number modulo the modulus, if they have no divisor in common."""
    high, low = modulus, number % modulus
    over, under = 0, 1
    while low != 0:
        many = high // low
        high, low = low, high - many * low
        over, under = under, over - many * under
    return over % modulus


def _grown_anew(basis, row):
    """The basis with a row that depends on it modulo its prime alone, by another prime."""
    prime = basis.prime
    grown = None
    while grown is None:
        prime = _prime_above(prime)
        grown = _basis_of(basis.rows + (row,), prime)
    return grown


def _basis_of(rows, prime):
    """The basis of rows, None if they depend on one another modulo the prime."""
    basis = empty_basis(len(rows[0]), prime)
    for row in rows:
        if basis is not None:
            basis = _grown(basis, row)
    return basis


def _prime_above(number):
    """The least prime above an odd number."""
    number = number + 2
    while any([number % divisor == 0 for divisor in range(3, isqrt(number) + 1, 2)]):
        number = number + 2
    return number


def _lifted(basis, row, hint):
    """What multiples tells of a row that depends on the rows modulo the prime."""
    rest = [hint * number for number in row]
    told = [0] * len(basis.rows)
    scale = 1
    turns = 0
    due = 2 + hint.bit_length() // basis.modulus.bit_length()
    while any(rest):
        digits = [_balanced(number, basis.modulus) for number in _leaning(basis, rest)]
        rest = _less_rows(basis, rest, digits)
        if any([number % basis.modulus != 0 for number in rest]):
            return None
        rest = [number // basis.modulus for number in rest]
        told = [number + digit * scale for number, digit in zip(told, digits)]
        scale = scale * basis.modulus
        turns = turns + 1
        if turns == due:
            due = due * 2
            divisor, numbers = _fractions_of(told, scale)
            if _adds_up(basis, row, divisor * hint, numbers):
                return _reduced(divisor * hint, numbers)
    return _reduced(hint, told)


def _balanced(number, modulus):
    """The number of the same rest modulo the modulus that is nearest to 0."""
    rest = number % modulus
    return rest - modulus if rest * 2 > modulus else rest


def _fractions_of(told, scale):
    """A divisor and numbers that are so many times those told modulo the scale; small ones, if there are any."""
    limit = isqrt(scale // 2)
    divisor = 1
    for number in told:
        if divisor <= limit and abs(_balanced(divisor * number, scale)) > limit:
            divisor = divisor * _denominator(divisor * number, scale, limit)
    return divisor, [_balanced(divisor * number, scale) for number in told]


def _denominator(number, scale, limit):
    """The least number from 1 on that leads the number, taken times modulo the scale, within the limit."""
    high, low = scale, number % scale
    over, under = 0, 1
    while low > limit:
        many = high // low
        high, low = low, high - many * low
        over, under = under, over - many * under
    return abs(under)


def _adds_up(basis, row, divisor, numbers):
    """Whether so many times the rows add up to divisor times the row."""
    return not any(_less_rows(basis, [divisor * number for number in row], numbers))


def _reduced(divisor, numbers):
    """A pair of a divisor and a tuple of numbers, without a divisor in common."""
    common = divisor
    for number in numbers:
        common = gcd(common, number)
    return divisor // common, tuple([number // common for number in numbers])
