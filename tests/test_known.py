"""Known tables and schemes: values, states, ways, columns, and what is refused."""

import itertools
import random
import time
import unittest

from helpers import (
    assert_order, assert_raises, is_trimmed, odd_values, readings_of_length, same, slow_at, some_function,
    words_of_length)
from sumdigits import known
from sumdigits.alike import alike
from sumdigits.errors import BadBase, BadLetter, BadWeight, BadWidth
from sumdigits.judged import judge
from sumdigits.known import (
    at_most, below, count_table, equal, halves_scheme, next_one, number_table, ones, plain_scheme, power,
    running_scheme, slope_scheme, tree_scheme, tree_with_entries, within)
from sumdigits.schemes import Plane, Scheme
from sumdigits.tables import Table

BASES = (2, 3, 4)
NO_BASES = [value for value in odd_values() if value != 2] + [0, 1, 5, -2, "2", (2,), [2], (2, 3), 10 ** 40]


def number(word, base):
    return int(word, base) if word else 0


PAIRS = {
    "equal": (equal, lambda base, i, j: int(i == j)),
    "below": (below, lambda base, i, j: int(number(i, base) < number(j, base))),
    "at_most": (at_most, lambda base, i, j: int(number(i, base) <= number(j, base))),
    "within": (within, lambda base, i, j: int(all(one <= other for one, other in zip(i, j)))),
    "next_one": (next_one, lambda base, i, j: int(number(i, base) + 1 == number(j, base)))}


def ways_of(table, reading):
    """How many ways of a reading end at a state with an end."""
    many = {table.start: 1}
    for letter in reading:
        found = {}
        for state, count in many.items():
            for goal in table.steps.get((state, letter), {}):
                found[goal] = found.get(goal, 0) + count
        many = found
    return sum(count for state, count in many.items() if state in table.ends)


def all_weights(table):
    return [weight for goals in table.steps.values() for weight in goals.values()] + list(table.ends.values())


def lengths_of(base):
    """The lengths of columns of at most 16 entries."""
    return [length for length in range(5) if base ** length <= 16]


class Tables(unittest.TestCase):
    def assert_kind(self, table, base, width, states):
        self.assertIs(type(table), Table)
        self.assertTrue(same([table.base, table.width, table.start, len(table)], [base, width, "e", states]))

    def assert_one_way(self, table, most):
        for length in range(most + 1):
            for reading in readings_of_length(table.base, table.width, length):
                self.assertEqual(ways_of(table, reading), int(slow_at(table, *words_behind(reading, table.width)) != 0))

    def test_pairs_of_words(self):
        for name, (made, due) in PAIRS.items():
            for base in BASES:
                table = made(base)
                self.assert_kind(table, base, 2, 1 if name in ("equal", "within") else 2)
                self.assertTrue(all(weight > 0 for weight in all_weights(table)))
                self.assertTrue(is_trimmed(table))
                for length in range(5 if base == 2 else 4 if base == 3 else 3):
                    for i in words_of_length(base, length):
                        for j in words_of_length(base, length):
                            self.assertTrue(same(table[i, j], due(base, i, j)), (name, base, i, j))
                self.assert_one_way(table, 3 if base < 4 else 2)
                self.assertEqual(made(base=base), table)

    def test_words_of_100_digits(self):
        dice = random.Random(20)
        for name, (made, due) in PAIRS.items():
            for base in BASES:
                table = made(base)
                last = "0123"[base - 1]
                words = ["0" * 100, last * 100, "0" * 99 + "1", last * 99 + "0", "1" + "0" * 99, "0" + last * 99]
                words += ["".join(dice.choice("0123"[:base]) for _ in range(100)) for _ in range(3)]
                for i, j in itertools.product(words, repeat=2):
                    self.assertEqual(table[i, j], due(base, i, j), (name, base, i, j))

    def test_next_to_one_another(self):
        for base in BASES:
            for length in (1, 2, 3, 50, 100):
                for at in (0, 1, base - 1, base ** length // 2, base ** length - 2, base ** length - 1):
                    one = self.digits(at, base, length)
                    other = self.digits((at + 1) % base ** length, base, length)
                    risen = int(at + 1 < base ** length)
                    self.assertEqual([next_one(base)[one, other], below(base)[one, other], at_most(base)[one, other],
                                      next_one(base)[other, one] if base ** length > 2 else 0, below(base)[other, one]],
                                     [risen, risen, risen, 0, int(not risen and base ** length > 1)])

    def digits(self, at, base, length):
        digits = []
        for _ in range(length):
            digits.append("0123"[at % base])
            at //= base
        return "".join(digits[::-1])

    def test_ones(self):
        for base, width in itertools.product(BASES, range(4)):
            table = ones(base, width)
            self.assert_kind(table, base, width, 1)
            self.assertEqual(len(table.steps), base ** width)
            self.assertEqual(set(all_weights(table)), {1})
            for length in range(3):
                self.assertEqual(table.total(length), base ** (width * length) if width else 1)
                for reading in readings_of_length(base, width, min(length, 3 - width)):
                    self.assertEqual(slow_at(table, *words_behind(reading, width)), 1)
            self.assertEqual(ones(width=width, base=base), table)
            if width:
                self.assertEqual(table[("0" * 100,) * width], 1)

    def test_power(self):
        for base in BASES:
            for by in (0, 1, -1, 2, 3, -7, 10 ** 40, -10 ** 59):
                table = power(base, by)
                self.assert_kind(table, base, 2, 1)
                for length in range(3):
                    for i in words_of_length(base, length):
                        for j in words_of_length(base, length):
                            self.assertTrue(same(table[i, j], by ** length if i == j else 0))
                self.assertEqual(table["01" * 50, "01" * 50], by ** 100)
            self.assertEqual(power(base, 1), equal(base))
            self.assertEqual(power(base, 0).steps, {})
            self.assertEqual(power(by=2, base=base), power(base, 2))

    def test_numbers_and_counts(self):
        for base in BASES:
            table = number_table(base)
            self.assert_kind(table, base, 1, 2)
            self.assertTrue(all(weight > 0 for weight in all_weights(table)))
            for length in range(4):
                for word in words_of_length(base, length):
                    self.assertTrue(same(table[word], number(word, base)))
                    for digit in "0123"[:base]:
                        self.assertTrue(same(count_table(base, digit)[word], word.count(digit)))
            last = "0123"[base - 1]
            self.assertEqual([table["0" * 100], table[last * 100], table["1" + "0" * 99]],
                             [0, base ** 100 - 1, base ** 99])
            for digit in "0123"[:base]:
                count = count_table(base, digit)
                self.assert_kind(count, base, 1, 2)
                self.assertTrue(all(weight > 0 for weight in all_weights(count)))
                self.assertEqual([count["0" * 100], count[last * 100]], [100 * (digit == "0"), 100 * (digit == last)])
                self.assertEqual(count_table(digit=digit, base=base), count)
            self.assertEqual(number_table(base=base), table)

    def test_what_is_refused(self):
        for value in NO_BASES:
            for made in (equal, below, at_most, within, next_one, number_table, plain_scheme, running_scheme,
                         tree_scheme, tree_with_entries, slope_scheme):
                assert_raises(self, BadBase, [value], made, value)
            for other in ("0", 1, None):
                for made in (ones, power, count_table):
                    assert_raises(self, BadBase, [value], made, value, other)
        for value in odd_values() + [4, -1, 10 ** 30, "1"]:
            if type(value) is not int:
                assert_raises(self, BadWeight, [value], power, 3, value)
            if type(value) is not int or not 0 <= value <= 3:
                assert_raises(self, BadWidth, [value], ones, 2, value)
            if not isinstance(value, str) or value not in ("0", "1"):
                assert_raises(self, BadLetter, [value], count_table, 2, value)
        for digit in ("2", "3", "4", "00", "01", "", "-", "\n", 0, 1, ("0",), ["0"]):
            assert_raises(self, BadLetter, [digit], count_table, 2, digit)
        assert_raises(self, BadLetter, ["3"], count_table, 3, "3")
        assert_order(self, ones, {"base": 2, "width": 1},
                     [({"base": some_function}, BadBase, [some_function]), ({"width": -1}, BadWidth, [-1])])
        assert_order(self, power, {"base": 2, "by": 1},
                     [({"base": True}, BadBase, [True]), ({"by": True}, BadWeight, [True])])
        assert_order(self, count_table, {"base": 2, "digit": "1"},
                     [({"base": [2]}, BadBase, [[2]]), ({"digit": "2"}, BadLetter, ["2"])])

    def test_each_call_gives_a_table_of_its_own(self):
        table = equal(2)
        table.steps.clear()
        self.assertEqual(len(equal(2).steps), 2)

    def test_they_are_defined_in_their_file(self):
        for name in ("equal below at_most within next_one ones power number_table count_table plain_scheme "
                     "running_scheme tree_scheme tree_with_entries halves_scheme slope_scheme").split():
            self.assertEqual(getattr(known, name).__module__, "sumdigits.known")


def words_behind(reading, width):
    """The words of a reading; of the width 0 as many empty letters as it has."""
    if width == 0:
        return (reading,)
    return tuple("".join(letter[place] for letter in reading) for place in range(width))


def slope_due(base, i, j):
    return max(0, number(j, base) + 1 - number(i, base))


SCHEMES = {
    "plain": (plain_scheme, PAIRS["equal"][1], 1),
    "running": (running_scheme, PAIRS["at_most"][1], 1),
    "tree": (tree_scheme, PAIRS["below"][1], 1),
    "entries": (tree_with_entries, PAIRS["at_most"][1], 2),
    "slope": (slope_scheme, slope_due, 2),
    "halves": (lambda base: halves_scheme(), lambda base, i, j: 2 ** len(i) * (i == j), 1)}


def known_schemes():
    """Tuples of a name, a base, a known scheme over it, what it answers, and its number of planes."""
    return [(name, base, made(base), due, planes) for name, (made, due, planes) in SCHEMES.items() for base in BASES
            if base == 2 or name != "halves"]


class Schemes(unittest.TestCase):
    def test_planes_and_states(self):
        for name, base, scheme, due, planes in known_schemes():
            self.assertIs(type(scheme), Scheme)
            self.assertTrue(same([scheme.base, len(scheme)], [base, planes]))
            for plane in scheme:
                for table in (plane.change, plane.question):
                    self.assertLessEqual(len(table), 4 if name in ("halves", "slope") else 2, name)
                    if name != "slope":
                        self.assertEqual(table.start, "e")
                    if name not in ("slope", "halves"):
                        self.assertTrue(all(weight > 0 for weight in all_weights(table)), name)
                        for length in range(4 if base < 4 else 3):
                            for reading in readings_of_length(base, 2, length):
                                self.assertLessEqual(ways_of(table, reading), 1)

    def test_what_they_are_made_of(self):
        for base in BASES:
            self.assertEqual(plain_scheme(base), Scheme(Plane(equal(base), equal(base))))
            self.assertEqual(running_scheme(base), Scheme(Plane(at_most(base), equal(base))))
            self.assertEqual(tree_with_entries(base).planes, tree_scheme(base).planes + plain_scheme(base).planes)
            self.assertEqual(slope_scheme(base)[0].change, at_most(base))
            self.assertEqual([len(table) for table in (tree_scheme(base)[0].change, tree_scheme(base)[0].question)],
                             [2, 2])
            for made in (plain_scheme, running_scheme, tree_scheme, tree_with_entries, slope_scheme):
                self.assertEqual(made(base=base), made(base))

    def test_cells_of_changes(self):
        for base in BASES:
            digits = "0123"[:base]
            for length in lengths_of(base):
                words = words_of_length(base, length)
                for i, k in itertools.product(words, repeat=2):
                    self.assertEqual(plain_scheme(base)[0].change[i, k], int(i == k))
                    self.assertEqual(running_scheme(base)[0].change[i, k], int(i <= k))
                    self.assertEqual(running_scheme(base)[0].question[i, k], int(i == k))
                    self.assertEqual(tree_scheme(base)[0].change[i, k], int(self.begins(i, k, digits)))
                    self.assertEqual(tree_scheme(base)[0].question[i, k], int(self.passes(i, k, digits)))
                    slope = slope_scheme(base)
                    self.assertEqual(slope[1].change[i, k], -number(i, base) * (i <= k))
                    self.assertEqual([slope[0].question[i, k], slope[1].question[i, k]],
                                     [(number(i, base) + 1) * (i == k), int(i == k)])

    def parted(self, k, digits):
        """The pair of w and d, k being w d b-1 .. b-1 with d below b-1; None without."""
        for length in range(len(k)):
            if k[length] != digits[-1] and k[length + 1:] == digits[-1] * (len(k) - length - 1):
                return k[:length], k[length]
        return None

    def begins(self, i, k, digits):
        part = self.parted(k, digits)
        return part is not None and i.startswith(part[0] + part[1])

    def passes(self, j, k, digits):
        part = self.parted(k, digits)
        return part is not None and j.startswith(part[0]) and j[len(part[0])] > part[1]

    def test_cells_of_halves(self):
        plane = halves_scheme()[0]
        for length in range(5):
            words = words_of_length(2, length)
            for i, k in itertools.product(words, repeat=2):
                part = self.parted(k, "01")
                change, question = 1, 1
                if part is not None:
                    w = part[0]
                    sign = 0 if not i.startswith(w) else 1 if i[len(w)] == "0" else -1
                    change, question = sign, sign * 2 ** len(w)
                self.assertEqual([plane.change[i, k], plane.question[i, k]], [change, question], (i, k))

    def test_columns(self):
        dice = random.Random(21)
        for name, base, scheme, due, _ in known_schemes():
            for length in lengths_of(base):
                words = words_of_length(base, length)
                for column in ([1] * len(words), [dice.randint(-99, 99) for _ in words],
                               [10 ** 20 * (at + 1) for at, _ in enumerate(words)]):
                    cells = [{k: sum(plane.change[i, k] * entry for i, entry in zip(words, column)) for k in words}
                             for plane in scheme]
                    for j in words:
                        told = sum(plane.question[j, k] * cells[at][k] for at, plane in enumerate(scheme) for k in words)
                        self.assertEqual(told, sum(due(base, i, j) * entry for i, entry in zip(words, column)),
                                         (name, base, j))

    def test_100_digits(self):
        last = {2: "1", 3: "2", 4: "3"}
        for base in BASES:
            tree = tree_scheme(base)[0]
            high = last[base] * 100
            self.assertEqual([tree.change["0" * 100, "0" + high[1:]], tree.change["0" * 100, high],
                              tree.question[high, "0" * 100], tree.question[high, high[1:] + "0"]], [1, 0, 0, 1])
            slope = slope_scheme(base)
            self.assertEqual([slope[0].question[high, high], slope[1].change[high, high]],
                             [base ** 100, 1 - base ** 100])
        halves = halves_scheme()[0]
        self.assertEqual([halves.question["1" * 100, "1" * 99 + "0"], halves.question["0" * 100, "0" * 100]],
                         [-2 ** 99, 2 ** 99])

    def test_slopes_by_signs(self):
        """The tables of slopes are those that sums and products of other known tables give."""
        for base in BASES:
            scheme, count = slope_scheme(base), number_table(base).placed(2, 0)
            self.assertTrue(alike(scheme[0].question, equal(base) * count + equal(base)))
            self.assertTrue(alike(scheme[1].change, at_most(base) * count * -1))
            self.assertTrue(judge(scheme, scheme.answers()))
            self.assertEqual([scheme[0].change, scheme[1].question], [at_most(base), equal(base)])
            self.assertEqual([len(table) for plane in scheme for table in (plane.change, plane.question)], [2, 2, 4, 1])

    def test_a_thousand_times_in_time(self):
        for base in BASES:
            spent = {}
            for name, (made, _, _) in SCHEMES.items():
                if base == 2 or name != "halves":
                    spent[name] = min(self.spent_on(made, base, 250) for _ in range(4)) * 4
                    self.assertLess(spent[name], 2, name)
            self.assertLess(spent["slope"], 3.5 * spent["entries"])

    def spent_on(self, made, base, times):
        begun = time.process_time()
        for _ in range(times):
            made(base)
        return time.process_time() - begun


if __name__ == "__main__":
    unittest.main()
