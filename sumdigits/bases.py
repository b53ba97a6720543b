"""Rows of integers that do not depend on one another, and what other rows are made of.

Elimination in integers reckons with numbers as long as determinants, even where the answer is short. So rows
are inverted modulo a power of a prime, and the fractions that a row is made of are told by their digits in the
base of this power, as many as they need. What is told is always tested in integers: a row that depends on
others modulo the prime alone leads to another prime.

Rows are dicts from columns to numbers other than 0, and all sums go over these alone: where there are few of
them, little is reckoned.
"""

from math import gcd, isqrt, lcm

FIRST_PRIME = 2147483647


class Basis:
    """Rows that do not depend on one another modulo a prime; `taken` adds to them.

    spots has the pivots, as many columns as there are rows, in which the rows have an inverse modulo the modulus,
    a power of the prime; it tells their indexes. sides has for each row the pairs of the index of a pivot and
    the number there. lines has for each pivot the line of the inverse, a dict from indexes of rows. touched tells
    how many rows have a number in a column. turned keeps _turned_parts, once they are asked for, until it grows.
    hint is a divisor that has come up with these rows: most often the next ones divide it, or nearly.
    """

    def __init__(self, prime):
        self.prime = prime
        self.modulus = prime ** 17
        self.rows = []
        self.spots = {}
        self.sides = []
        self.lines = []
        self.touched = {}
        self.turned = None
        self.hint = 1


def copy_of(basis):
    """The same basis, which grows by itself."""
    found = Basis(basis.prime)
    _fill(found, basis)
    return found


def _fill(basis, other):
    """Give a basis all that another one has; lists and dicts within them are never changed, so they are shared."""
    basis.prime = other.prime
    basis.modulus = other.modulus
    basis.rows = list(other.rows)
    basis.spots = dict(other.spots)
    basis.sides = list(other.sides)
    basis.lines = list(other.lines)
    basis.touched = dict(other.touched)
    basis.turned = other.turned
    basis.hint = other.hint


def sparse(numbers):
    """A row of the numbers of a tuple or list."""
    return {column: number for column, number in enumerate(numbers) if number != 0}


def taken(basis, row):
    """None if the basis has grown by the row; otherwise what multiples tells, and the basis stays as it is."""
    lean = _leaning(basis, _in_pivots(basis, row))
    column, final, told = _settled(basis, row, lean, basis.hint)
    if column is not None:
        _grow(basis, row, lean, column)
        return None
    if not final:
        if basis.turned is None:
            basis.turned = _turned_parts(basis)
        told = _lifted(basis, row, basis.hint, basis.turned)
    if told is None:
        _grow_anew(basis, row)
        return None
    basis.hint = lcm(basis.hint, told[0])
    return told


def multiples(basis, row, hint):
    """None if the row depends on none of the rows; otherwise the least divisor from 1 on, and the dict from the
    indexes of rows to the integers by which they add up to divisor times the row. A hint is an integer from 1 on
    that the divisor may divide."""
    _, final, told = _settled(basis, row, _leaning(basis, _in_pivots(basis, row)), hint)
    return told if final else _lifted(basis, row, hint, _turned_parts(basis))


def all_depend(basis, rows):
    """Whether each of some rows depends on those of the basis."""
    hint = 1
    for row in rows:
        told = multiples(basis, row, hint)
        if told is None:
            return False
        hint = lcm(hint, told[0])
    return True


def kept_of(rows):
    """The ascending list of the indexes of rows that do not depend on the rows ahead of them."""
    basis = Basis(FIRST_PRIME)
    return [at for at, row in enumerate(rows) if taken(basis, row) is None]


def as_tuple(numbers, many):
    """A dict from indexes to numbers as the tuple of so many numbers."""
    line = [0] * many
    for at, number in numbers.items():
        line[at] = number
    return tuple(line)


def _in_pivots(basis, row):
    """The pairs of the indexes of pivots and the numbers of a row there."""
    return [(basis.spots[column], number) for column, number in row.items() if column in basis.spots]


def _balanced(number, modulus):
    """The number of the same rest modulo the modulus that is nearest to 0."""
    rest = number % modulus
    return rest - modulus if rest * 2 > modulus else rest


def _leaning(basis, picked):
    """The multiples of the rows, modulo the modulus, that add up to these numbers in the pivots."""
    modulus = basis.modulus
    sums = [0] * len(basis.rows)
    for at, number in picked:
        # Numbers of vectors can be much longer than the modulus.
        part = number if -modulus < number < modulus else number % modulus
        for index, factor in basis.lines[at].items():
            sums[index] = sums[index] + part * factor
    return {index: _balanced(number, modulus) for index, number in enumerate(sums) if number != 0}


def less_rows(row, rows, numbers):
    """The row less so many times each row, numbers being a dict from the indexes of rows."""
    rest = dict(row)
    for index, number in numbers.items():
        for column, part in rows[index].items():
            rest[column] = rest.get(column, 0) - number * part
    return {column: number for column, number in rest.items() if number != 0}


def _times(row, number):
    return {column: part * number for column, part in row.items()}


def _settled(basis, row, lean, hint):
    """A triple: a column in which the row parts from all sums of the rows modulo the prime, or None; whether it is
    settled what multiples tells; and this."""
    divisor, numbers = _short_multiples(basis, lean, hint)
    if divisor == 0 and _has_pivots_alone(basis, row):
        return None, False, None
    if divisor == 0:
        divisor = 1
        numbers = {index: _balanced(number, basis.prime) for index, number in lean.items()}
    rest = less_rows(_times(row, divisor), basis.rows, numbers)
    if len(rest) == 0:
        return None, True, _reduced(divisor, numbers)
    column = _free_column(basis, rest)
    if column is not None:
        return column, True, None
    # Short fractions are told by few digits, and found more quickly by these.
    fractions = _fractions_of(as_tuple(lean, len(basis.rows)), basis.prime ** 4, basis.prime ** 2)
    if fractions is None:
        return None, False, None
    final, told = _tested(basis, row, fractions[0], fractions[1])
    return None, final, told


def _has_pivots_alone(basis, row):
    """Whether no row, this one neither, has a number but in the pivots."""
    return len(basis.touched) == len(basis.rows) and len(_in_pivots(basis, row)) == len(row)


def _short_multiples(basis, lean, hint):
    """A divisor and short numbers that are so many times those of lean; the divisor 0 if none are known."""
    if _are_short(lean):
        return 1, lean
    if hint > 1 and hint % basis.prime != 0:
        numbers = {index: _balanced(number * hint, basis.modulus) for index, number in lean.items()}
        if _are_short(numbers):
            return hint, numbers
    return 0, lean


def _are_short(numbers):
    return all([number.bit_length() <= 500 for number in numbers.values()])


def _free_column(basis, rest):
    """A column in which a row is not 0 modulo the prime, such that as few rows as may be have it; None without."""
    best = None
    least = 0
    for column, number in rest.items():
        many = basis.touched.get(column, 0)
        if (best is None or many < least) and number % basis.prime != 0:
            best = column
            least = many
    return best


def _grow(basis, row, lean, column):
    """Add a row that in this column, the new pivot, parts from so many times the rows."""
    modulus = basis.modulus
    new = len(basis.rows)
    basis.turned = None
    if basis.hint.bit_length() > 60:
        basis.hint = 1
    above = [(index, other[column]) for index, other in enumerate(basis.rows) if column in other]
    low = [(index, number % modulus) for index, number in above]
    free = row.get(column, 0) - sum([lean.get(index, 0) * number for index, number in low])
    share = _inverse_of(free, modulus)
    if len(above) > 0:
        basis.lines = [_grown_line(line, low, share, lean, new, modulus) for line in basis.lines]
        for index, number in above:
            basis.sides[index] = basis.sides[index] + [(new, number)]
    last = {index: _balanced(-factor * share, modulus) for index, factor in lean.items()}
    basis.lines.append({**last, new: _balanced(share, modulus)})
    basis.spots[column] = new
    basis.rows.append(row)
    basis.sides.append(_in_pivots(basis, row))
    for place in row:
        basis.touched[place] = basis.touched.get(place, 0) + 1


def _grown_line(line, above, share, lean, new, modulus):
    """A line of the inverse with one row more."""
    over = _balanced(sum([line.get(index, 0) * number for index, number in above]) * share, modulus)
    if over == 0:
        return line
    more = {index: (line.get(index, 0) + factor * over) % modulus for index, factor in lean.items()}
    return {**line, **more, new: -over}


def _inverse_of(number, modulus):
    """The inverse of a number modulo the modulus, if they have no divisor in common."""
    high, low = modulus, number % modulus
    over, under = 0, 1
    while low != 0:
        many = high // low
        high, low = low, high - many * low
        over, under = under, over - many * under
    return over % modulus


def _grow_anew(basis, row):
    """Add a row that depends on the rows modulo the prime alone: all is reckoned anew by another prime."""
    prime = basis.prime
    grown = None
    while grown is None:
        prime = _prime_above(prime)
        grown = _basis_of(basis.rows + [row], prime)
    _fill(basis, grown)


def _basis_of(rows, prime):
    """The basis of rows, None if they depend on one another modulo the prime."""
    basis = Basis(prime)
    for row in rows:
        lean = _leaning(basis, _in_pivots(basis, row))
        column = _free_column(basis, less_rows(row, basis.rows, lean))
        if column is None:
            return None
        _grow(basis, row, lean, column)
    return basis


def _prime_above(number):
    """The least prime above an odd number."""
    number = number + 2
    while any([number % divisor == 0 for divisor in range(3, isqrt(number) + 1, 2)]):
        number = number + 2
    return number


def _tested(basis, row, divisor, numbers):
    """A pair: whether so many times the rows add up to divisor times the row in the pivots, and what multiples
    tells then. It is final, as just one sum of multiples of the rows is right in the pivots."""
    left = less_rows(_times(row, divisor), basis.rows, numbers)
    if len(left) == 0:
        return True, _reduced(divisor, numbers)
    return len(_in_pivots(basis, left)) == 0, None


def _lifted(basis, row, hint, turned):
    """What multiples tells of a row that depends on the rows modulo the prime, from as many digits as it takes."""
    modulus = basis.modulus
    many = len(basis.rows)
    inverse, columns = turned
    rest = as_tuple(dict(_in_pivots(basis, _times(row, hint))), many)
    told = [0] * many
    scale = 1
    turns = 0
    due = 2 + hint.bit_length() // modulus.bit_length()
    tried = False
    while any(rest):
        cut = [number % modulus for number in rest]
        digits = [_balanced(total, modulus) for total in _products(inverse, cut)]
        rest = [(number - total) // modulus for number, total in zip(rest, _products(columns, digits))]
        told = [number + digit * scale for number, digit in zip(told, digits)]
        scale = scale * modulus
        turns = turns + 1
        if turns == due and any(rest):
            due = due + 1 + due // 2
            # Behind a hint most often only little of the divisor is left to be told.
            most = isqrt(scale // 2) if hint == 1 or tried else basis.prime ** 8
            tried = True
            fractions = _fractions_of(told, scale, most)
            if fractions is not None:
                final, found = _tested(basis, row, fractions[0] * hint, fractions[1])
                if final:
                    return found
    _, found = _tested(basis, row, hint, sparse(told))
    return found


def _turned_parts(basis):
    """The inverse by rows, and the numbers of the rows by pivots."""
    many = len(basis.rows)
    return _turned([list(line.items()) for line in basis.lines], many), _turned(basis.sides, many)


def _turned(lines, many):
    """Lines of pairs of an index and a number, the indexes of both in exchange; full ones as the numbers alone."""
    found = [[] for _ in lines]
    for at, line in enumerate(lines):
        for index, number in line:
            found[index].append((at, number))
    return [[part for _, part in line] if len(line) == many else line for line in found]


def _products(lines, numbers):
    """For each line the sum of its numbers times those of the same indexes."""
    return [sum([number * part for number, part in zip(numbers, line)]) if len(line) == len(numbers)
            else sum([numbers[at] * part for at, part in line]) for line in lines]


def _fractions_of(told, scale, most):
    """A divisor up to a bound and small numbers that are so many times those told modulo the scale; None without."""
    limit = scale // (2 * most)
    divisor = 1
    for number in told:
        if divisor <= most and abs(_balanced(divisor * number, scale)) > limit:
            divisor = divisor * _denominator(divisor * number, scale, limit)
    if divisor > most:
        return None
    return divisor, sparse([_balanced(divisor * number, scale) for number in told])


def _denominator(number, scale, limit):
    """The least number from 1 on that leads the number, taken times modulo the scale, within the limit."""
    high, low = scale, number % scale
    over, under = 0, 1
    while low > limit:
        many = high // low
        high, low = low, high - many * low
        over, under = under, over - many * under
    return abs(under)


def _reduced(divisor, numbers):
    """A pair of a divisor and a dict of numbers, without a divisor in common."""
    common = divisor
    for number in numbers.values():
        common = gcd(common, number)
    if common == 1:
        return divisor, numbers
    return divisor // common, {index: number // common for index, number in numbers.items()}
