"""Rows of integers and determinants."""

import itertools
import random
import time
import unittest
from fractions import Fraction
from math import gcd

from helpers import assert_raises, odd_values, same, size_table, snapshot, some_function
from sumdigits.errors import BadNumber, BadWidth
from sumdigits.spaces import Rows, determinant

PRIME = 2147483647
NO_ROWS = [None, True, 5, "ab", "", (), (1,), (1, 2, 3), [], [1, 2], {}, {1: 2, 3: 4}, (1, True), (False, 1), (1, None),
           (1, "2"), ((1,), 2), (1, [2]), some_function, size_table(), Rows.of(2, (1, 2))]
NO_WIDTHS = [None, True, False, 0, -1, 61, 10 ** 30, "2", (2,), [2], {}, some_function, size_table()]


def told_by_fractions(rows, row):
    """The fractions by which the rows, that do not depend on one another, add up to the row; None without any."""
    lines = [[Fraction(other[column]) for other in rows] + [Fraction(row[column])] for column in range(len(row))]
    for at in range(len(rows)):
        pivot = next(n for n in range(at, len(lines)) if lines[n][at] != 0)
        lines[at], lines[pivot] = lines[pivot], lines[at]
        lines[at] = [number / lines[at][at] for number in lines[at]]
        for n, line in enumerate(lines):
            if n != at:
                lines[n] = [number - line[at] * part for number, part in zip(line, lines[at])]
    if any(line[-1] != 0 for line in lines[len(rows):]):
        return None
    return [line[-1] for line in lines[:len(rows)]]


def by_permutations(square):
    """The determinant as a sum over all permutations."""
    total = 0
    for order in itertools.permutations(range(len(square))):
        worth = 1
        for at, place in enumerate(order):
            worth *= square[at][place]
            for earlier in order[:at]:
                worth *= -1 if earlier > place else 1
        total += worth
    return total


class RowsTests(unittest.TestCase):
    def test_none_and_one(self):
        for width in (1, 2, 60):
            rows = Rows(width)
            self.assertTrue(same([rows.width, len(rows), list(rows), bool(rows)], [width, 0, [], False]))
            self.assertTrue(same(rows.made_of((0,) * width), (1, ())))
            self.assertIsNone(rows.made_of((1,) + (0,) * (width - 1)))
            self.assertIn((0,) * width, rows)
            one = rows.more((2,) * width)
            self.assertTrue(same([one.width, len(one), list(one), bool(one)], [width, 1, [(2,) * width], True]))
            self.assertTrue(same(one.made_of((-3,) * width), (2, (-3,))))
            self.assertTrue(same([len(rows), list(rows)], [0, []]))
        self.assertEqual(Rows(width=3), Rows.of(3))
        self.assertEqual(Rows.of(2, (0, 0), (0, 0)), Rows(2))

    def test_against_fractions(self):
        dice = random.Random(8)
        for trial in range(400):
            width = dice.randint(1, 5)
            kinds = dice.choice([(0, 1), (-2, -1, 0, 0, 1, 3), (0, 6, 10, 15), (PRIME, 0, 1, -PRIME),
                                 (PRIME ** 17, 0, 2, PRIME), tuple(range(10 ** 40, 10 ** 40 + 4))])
            rows = Rows(width)
            for _ in range(width + 2):
                row = tuple(dice.choice(kinds) for _ in range(width))
                before = snapshot(rows)
                due = told_by_fractions(list(rows), row)
                told = rows.made_of(row)
                more = rows.more(row)
                self.assertIs(row in rows, due is not None)
                if due is None:
                    self.assertIsNone(told)
                    self.assertTrue(same(list(more), list(rows) + [row]))
                else:
                    divisor, numbers = told
                    self.assertTrue(same([type(divisor), type(numbers), len(numbers)], [int, tuple, len(rows)]))
                    self.assertEqual([Fraction(number, divisor) for number in numbers], due)
                    self.assertGreater(divisor, 0)
                    self.assertEqual(gcd(divisor, *numbers), 1)
                    self.assertEqual(more, rows)
                self.assertTrue(same(snapshot(rows), before))
                rows = more

    def test_of(self):
        rows = Rows.of(3, (1, 1, 0), (2, 2, 0), (0, 0, 0), (0, 1, 1), (1, 2, 1), (5, 0, 0), (0, 0, 9))
        self.assertEqual(list(rows), [(1, 1, 0), (0, 1, 1), (5, 0, 0)])
        self.assertEqual(rows.made_of((1, 0, -1)), (1, (1, -1, 0)))
        self.assertEqual([row for row in rows], list(rows))

    def test_what_is_refused(self):
        for width in NO_WIDTHS:
            assert_raises(self, BadWidth, [width], Rows, width)
            assert_raises(self, BadWidth, [width], Rows.of, width, None, "x")
        rows = Rows.of(2, (1, 2))
        for row in NO_ROWS:
            assert_raises(self, BadNumber, [row], rows.more, row)
            assert_raises(self, BadNumber, [row], rows.made_of, row)
            assert_raises(self, BadNumber, [row], Rows.of, 2, (1, 1), (2, 2), row, None, "x")
            self.assertIs(row in rows, False)
        for value in odd_values():
            self.assertIs(value in rows, False)
        assert_raises(self, BadNumber, [(1,)], Rows.of, 2, (1,), (1, 2, 3))
        self.assertEqual(list(rows), [(1, 2)])

    def test_contains(self):
        rows = Rows.of(2, (2, 4))
        for row, due in (((1, 2), True), ((-3, -6), True), ((0, 0), True), ((1, 3), False), ((0, 1), False)):
            self.assertIs(row in rows, due)
        self.assertIs((PRIME, 0) in rows, False)
        self.assertIs((0, PRIME ** 17) in rows, False)
        self.assertIs((7, 10 ** 60) in rows.more((0, 1)), True)

    def test_less_or_equal(self):
        one, both, other = Rows.of(3, (1, 1, 0)), Rows.of(3, (1, 0, 0), (0, 3, 0)), Rows.of(3, (0, 0, 1))
        for low, high, due in ((one, both, True), (both, one, False), (one, one, True), (both, both, True),
                               (other, both, False), (one, other, False), (Rows(3), one, True), (one, Rows(3), False),
                               (Rows(3), Rows(3), True), (both, Rows.of(3, (1, 1, 0), (1, 2, 0)), True)):
            self.assertIs(low <= high, due)
        for value in odd_values():
            if not isinstance(value, Rows):
                assert_raises(self, BadNumber, [value], lambda: one <= value)
        assert_raises(self, BadWidth, [2], lambda: one <= Rows.of(2, (1, 0)))
        assert_raises(self, BadWidth, [60], lambda: Rows(1) <= Rows(60))

    def test_equality(self):
        rows = Rows.of(2, (1, 2), (0, 1))
        self.assertTrue(rows == Rows.of(2, (1, 2), (2, 4), (0, 1)))
        self.assertFalse(rows != Rows.of(2, (1, 2), (0, 1)))
        for other in (Rows.of(2, (0, 1), (1, 2)), Rows.of(2, (1, 2)), Rows.of(2, (1, 2), (0, 2)), Rows(2)):
            self.assertFalse(rows == other)
        self.assertFalse(Rows(2) == Rows(3))
        for value in odd_values() + [[(1, 2), (0, 1)], ((1, 2), (0, 1))]:
            self.assertFalse(rows == value)

    def test_each_method_stands_in_the_class(self):
        for name in "__init__ of more made_of __contains__ __len__ __iter__ __bool__ __le__ __eq__".split():
            self.assertIn(name, vars(Rows))
        self.assertIsInstance(vars(Rows)["of"], staticmethod)

    def test_60_rows_of_forty_figures_in_time(self):
        dice = random.Random(9)
        begun = time.process_time()
        many = [tuple(dice.randint(-10 ** 40, 10 ** 40) for _ in range(60)) for _ in range(60)]
        rows = Rows.of(60, *many)
        self.assertEqual(len(rows), 60)
        row = tuple(dice.randint(-10 ** 40, 10 ** 40) for _ in range(60))
        divisor, numbers = rows.made_of(row)
        for column in range(60):
            self.assertEqual(divisor * row[column], sum(n * line[column] for n, line in zip(numbers, many)))
        self.assertEqual(gcd(divisor, *numbers), 1)
        half = Rows.of(60, *many[:30])
        mixed = Rows.of(60, *[tuple(a + 7 * b for a, b in zip(many[at], many[at - 1])) for at in range(1, 30)])
        self.assertIs(mixed <= half, True)
        self.assertIs(half <= mixed, False)
        self.assertIs(rows <= half, False)
        self.assertIs(half <= rows, True)
        self.assertLess(time.process_time() - begun, 20)


class Determinants(unittest.TestCase):
    def test_small_ones(self):
        dice = random.Random(10)
        self.assertTrue(same([determinant([]), determinant(()), determinant([[5]]), determinant(((0,),))], [1, 1, 5, 0]))
        for trial in range(300):
            many = dice.randint(1, 5)
            numbers = dice.choice([(0, 1), (-3, 0, 2, 5), (10 ** 40, 10 ** 40 - 1, -7), (0, 0, 0, 1)])
            square = [dice.choice((list, tuple))(dice.choice(numbers) for _ in range(many)) for _ in range(many)]
            square = dice.choice((list, tuple))(square)
            before = snapshot(square)
            self.assertTrue(same(determinant(square), by_permutations(square)))
            self.assertTrue(same(snapshot(square), before))
        self.assertEqual(determinant(square=[(0, 1), (1, 0)]), -1)
        self.assertEqual(determinant([(0, 0, 1), (1, 0, 0), (0, 1, 0)]), 1)
        self.assertEqual(determinant([(0, 0, 1), (0, 1, 0), (1, 0, 0)]), -1)

    def test_40_rows(self):
        unit = [[int(row == column) for column in range(40)] for row in range(40)]
        self.assertEqual(determinant(unit), 1)
        self.assertEqual(determinant(unit[1:] + unit[:1]), -1)
        self.assertEqual(determinant(unit[:39] + [unit[0]]), 0)
        dice = random.Random(11)
        begun = time.process_time()
        low = [[dice.randint(-10 ** 39, 10 ** 39) if column < row else int(row == column) * (row + 1)
                for column in range(40)] for row in range(40)]
        due = 1
        for row in range(40):
            due *= row + 1
        self.assertEqual(determinant(low), due)
        full = [[dice.randint(10 ** 39, 10 ** 40) for _ in range(40)] for _ in range(40)]
        turned = [[full[column][row] for column in range(40)] for row in range(40)]
        self.assertEqual(determinant(full), determinant(turned))
        self.assertEqual(determinant(full[1:] + full[:1]), -determinant(full))
        self.assertNotEqual(determinant(full), 0)
        twice = full[:39] + [[a - b for a, b in zip(full[0], full[1])]]
        self.assertEqual(determinant(twice), 0)
        self.assertLess(time.process_time() - begun, 20)

    def test_what_is_refused(self):
        unit = [[int(row == column) for column in range(41)] for row in range(41)]
        bad = [value for value in odd_values() if value not in ([], ())]
        bad += [unit, unit[:40], [[]], ((),), [[1, 2]], [[1], [2]], [[1, 2], [3]], [[True]], [[1, 2], [3, None]],
                [[1, 2], "12"], ["1"], [{1: 1}], [[1, 2], {3: 1, 4: 2}], [Rows.of(1, (1,))], [[1, 2], [3, "4"]],
                [1], [None], [[[1]]]]
        for value in bad:
            assert_raises(self, BadNumber, [value], determinant, value)


if __name__ == "__main__":
    unittest.main()
