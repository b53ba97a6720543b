"""Closed readings as the document defines them, reckoned anew: vectors, looks, least readings, spoiled papers."""

import itertools

from helpers import letters_of, slow_at


class Vectors:
    """What [5] asks of vectors: letters, the vector behind a reading, and what a vector ends in."""

    def __init__(self, letters, start, step, end):
        self.letters = letters
        self.step = step
        self.end = end
        self.known = {(): start}

    def behind(self, reading):
        for length in range(1, len(reading) + 1):
            if reading[:length] not in self.known:
                ahead = self.known[reading[:length - 1]]
                self.known[reading[:length]] = without_zeros(self.step(ahead, reading[length - 1]))
        return self.known[reading]


def without_zeros(vector):
    return {key: number for key, number in vector.items() if number != 0}


def add(vector, key, number):
    vector[key] = vector.get(key, 0) + number


def table_vectors(tables, signs):
    def step(vector, letter):
        found = {}
        for (at, state), number in vector.items():
            for goal, weight in tables[at].steps.get((state, letter), {}).items():
                add(found, (at, goal), number * weight)
        return found

    def end(vector):
        return sum(number * signs[at] * tables[at].ends.get(state, 0) for (at, state), number in vector.items())

    start = {(at, table.start): 1 for at, table in enumerate(tables)}
    return Vectors(letters_of(tables[0].base, tables[0].width), start, step, end)


def plane_step(plane, key, number, letters, found, marks):
    """Add what a pair of states leads to by a letter of the change table and one of the question table."""
    at, state, mate = key
    for goal, weight in plane.change.steps.get((state, letters[0]), {}).items():
        for further, factor in plane.question.steps.get((mate, letters[1]), {}).items():
            add(found, (at, goal, further) + marks, number * weight * factor)


def judge_vectors(scheme, wanted):
    digits = "0123"[:scheme.base]

    def step(vector, letter):
        found = {}
        for key, number in vector.items():
            if key[0] == "wanted":
                for goal, weight in wanted.steps.get((key[1], letter), {}).items():
                    add(found, ("wanted", goal), number * weight)
            else:
                for cell in digits:
                    plane_step(scheme[key[0]], key, number, (letter[0] + cell, letter[1] + cell), found, ())
        return found

    def end(vector):
        told = sum(number * ends_of(scheme, key) for key, number in vector.items() if key[0] != "wanted")
        return told - sum(number * wanted.ends.get(key[1], 0) for key, number in vector.items() if key[0] == "wanted")

    start = {(at, plane.change.start, plane.question.start): 1 for at, plane in enumerate(scheme)}
    start["wanted", wanted.start] = 1
    return Vectors(letters_of(scheme.base, 2), start, step, end)


def ends_of(scheme, key):
    plane = scheme[key[0]]
    return plane.change.ends.get(key[1], 0) * plane.question.ends.get(key[2], 0)


def cut_vectors(scheme):
    def step(vector, letter):
        entry, question, cell = letter
        found = {}
        for (at, state, mate, one, other), number in vector.items():
            if (one or cell >= entry) and (other or cell >= question):
                marks = (one or cell > entry, other or cell > question)
                plane_step(scheme[at], (at, state, mate), number, (entry + cell, question + cell), found, marks)
        return found

    def end(vector):
        return sum(number * ends_of(scheme, key) for key, number in vector.items() if key[3] and key[4])

    start = {(at, plane.change.start, plane.question.start, False, False): 1 for at, plane in enumerate(scheme)}
    return Vectors(letters_of(scheme.base, 3), start, step, end)


def is_closed(vectors, readings, factors):
    """Whether any values are readings and just the factors with which they are closed."""
    if not are_readings(vectors.letters, readings) or readings[:1] != ((),) or type(factors) is not dict:
        return False
    due = {(at, letter) for at in range(len(readings)) for letter in vectors.letters}
    keys = [key for key in factors if type(key) is tuple and [type(part) for part in key] == [int, str]]
    if len(keys) != len(factors) or set(keys) != due:
        return False
    rows = [vectors.behind(reading) for reading in readings]
    if any(vectors.end(row) != 0 for row in rows):
        return False
    return all(is_factor(value, rows, vectors.behind(readings[at] + (letter,)))
               for (at, letter), value in factors.items())


def are_readings(letters, readings):
    if type(readings) is not tuple or len(readings) > 40:
        return False
    return all(type(reading) is tuple and len(reading) <= 100 and
               all(type(letter) is str and letter in letters for letter in reading) for reading in readings)


def is_factor(value, rows, further):
    if type(value) is not tuple or len(value) != 2:
        return False
    divisor, numbers = value
    if type(divisor) is not int or divisor < 1 or type(numbers) is not tuple or len(numbers) != len(rows):
        return False
    if not all(type(number) is int for number in numbers):
        return False
    total = {key: -divisor * part for key, part in further.items()}
    for number, row in zip(numbers, rows):
        for key, part in row.items():
            add(total, key, number * part)
    return not without_zeros(total)


def least_odd(value, letters, most):
    """The least reading of at most so many letters at which the value is not 0, by going through all; or None."""
    for length in range(most + 1):
        for reading in itertools.product(letters, repeat=length):
            if value(reading) != 0:
                return reading
    return None


def slow_told(scheme, entry, question):
    """What the answer table tells, by all cells and all ways."""
    cells = ["".join(digits) for digits in itertools.product("0123"[:scheme.base], repeat=len(entry))]
    return sum(slow_at(plane.change, entry, cell) * slow_at(plane.question, question, cell)
               for plane in scheme for cell in cells)


def slow_lost(scheme, entry, question, cell):
    """The lost part, by all ways."""
    if cell <= entry or cell <= question:
        return 0
    return sum(slow_at(plane.change, entry, cell) * slow_at(plane.question, question, cell) for plane in scheme)


def spoiled(readings, factors, letters):
    """Pairs of readings and factors that are those of a closed paper with something otherwise, mostly wrong."""
    many = len(readings)
    some = sorted(factors)
    pairs = [(readings[:-1], factors), (readings[1:], factors), (readings + ((letters[0],),), factors),
             (list(readings), factors), (readings[::-1], factors), (readings, list(factors.items())),
             ((), {}), (readings, {}), ((), factors), (readings, None), (None, factors),
             (tuple(list(reading) for reading in readings), factors)]
    pairs.append(less_by_one(readings, factors))
    pairs.append(more_by_one(readings, factors, letters, 0))
    pairs.append(more_by_one(readings, factors, letters, many - 1))
    for key in (some[0], some[len(some) // 2], some[-1]):
        divisor, numbers = factors[key]
        for value in ((divisor * 2, tuple(number * 2 for number in numbers)), (0, (0,) * many), (0, numbers),
                      (-divisor, tuple(-number for number in numbers)), (divisor + 1, numbers), (True, numbers),
                      (divisor, numbers[:-1]), (divisor, numbers + (0,)), (divisor, list(numbers)),
                      [divisor, numbers], (divisor, numbers[:-1] + (numbers[-1] + 1,)), (divisor,),
                      (divisor, numbers, 0), (divisor, numbers[:-1] + (bool(numbers[-1]),)), None,
                      (str(divisor), numbers), (divisor, numbers[:-1] + (None,))):
            pairs.append((readings, {**factors, key: value}))
        pairs.append((readings, {other: value for other, value in factors.items() if other != key}))
        for other in ((many, key[1]), (-1, key[1]), (key[0], "5"), (key[0], key[1] + "0"), key[0], None,
                      (key[0], key[1], 0), (key[0], None), (None, key[1])):
            pairs.append((readings, {**factors, other: factors[key]}))
            left = {one: value for one, value in factors.items() if one != key}
            pairs.append((readings, {**left, other: factors[key]}))
        if key[0] < 2:
            left = {one: value for one, value in factors.items() if one != key}
            pairs.append((readings, {**left, (bool(key[0]), key[1]): factors[key]}))
    return pairs


def less_by_one(readings, factors):
    """Without the last reading, and its factors and numbers."""
    last = len(readings) - 1
    return readings[:-1], {key: (divisor, numbers[:-1]) for key, (divisor, numbers) in factors.items() if key[0] < last}


def more_by_one(readings, factors, letters, at):
    """With the reading of this index once more at the end; closed as well."""
    more = {key: (divisor, numbers + (0,)) for key, (divisor, numbers) in factors.items()}
    more.update({(len(readings), letter): more[at, letter] for letter in letters})
    return readings + (readings[at],), more
