"""Noughts and alike tables: vectors, closed readings, least words, and what is refused."""

import random
import time
import unittest
from math import gcd

from helpers import (
    assert_order, assert_raises, at_most, below, chain, crowded, equal, letters_of, odd_values, random_table,
    readings_of_length, ring, same, size_table, slow_value, slow_vector, snapshot, some_function, tree_scheme)
from own_looks import is_closed, table_vectors
from sumdigits.alike import Alike, Apart, alike, first_apart
from sumdigits.errors import BadLetter, BadTable, BadWord, TooMany, Unlike
from sumdigits.noughts import Nought, Somewhere, nought, vector
from sumdigits.tables import Table
from sumdigits.words import words_of

PRIME = 2147483647


def words_behind(reading, width):
    return words_of(reading, width) if width else len(reading)


def rows_of(tables, readings):
    """The numbers behind readings of several tables side by side, reckoned letter by letter from shorter ones."""
    rows = {(): [[int(state == table.start) for state in table.states] for table in tables]}

    def row(reading):
        if reading not in rows:
            rows[reading] = [moved(table, numbers, reading[-1]) for table, numbers in zip(tables, row(reading[:-1]))]
        return rows[reading]

    return [sum(row(reading), []) for reading in readings]


def moved(table, numbers, letter):
    held = dict(zip(table.states, numbers))
    return [sum(held[state] * table.steps.get((state, letter), {}).get(goal, 0) for state in table.states)
            for goal in table.states]


class Closed(unittest.TestCase):
    def assert_closed(self, tables, signs, paper):
        """The readings are closed with just these factors, multiplied out; these are reduced."""
        readings, factors = paper.readings, paper.factors
        base, width = tables[0].base, tables[0].width
        letters = letters_of(base, width)
        self.assertTrue(same([type(readings), readings[0]], [tuple, ()]))
        self.assertLessEqual(len(readings), 40)
        self.assertEqual(sorted(factors), sorted((at, letter) for at in range(len(readings)) for letter in letters))
        rows = rows_of(tables, readings)
        ends = [table.ends.get(state, 0) * sign for table, sign in zip(tables, signs) for state in table.states]
        for row in rows:
            self.assertEqual(sum(number * end for number, end in zip(row, ends)), 0)
        for (at, letter), factor in factors.items():
            divisor, numbers = factor
            self.assertTrue(same([type(factor), type(divisor), type(numbers), len(numbers)],
                                 [tuple, int, tuple, len(readings)]))
            self.assertTrue(all(type(number) is int for number in numbers))
            self.assertGreater(divisor, 0)
            self.assertEqual(gcd(divisor, *numbers), 1)
            ahead = rows_of(tables, [readings[at] + (letter,)])[0]
            for place, number in enumerate(ahead):
                self.assertEqual(divisor * number, sum(n * row[place] for n, row in zip(numbers, rows)))

    def least(self, table, most):
        """The least reading of at most so many letters at which the value is not 0, by going through all."""
        for length in range(most + 1):
            for reading in readings_of_length(table.base, table.width, length):
                if slow_value(table, reading) != 0:
                    return reading
        return None


class Vectors(unittest.TestCase):
    def test_by_all_ways(self):
        dice = random.Random(12)
        for trial in range(100):
            base, width = dice.choice((2, 3, 4)), dice.choice((0, 1, 2, 3))
            table = random_table(dice, base, width)
            for length in range(5):
                reading = tuple(dice.choice(letters_of(base, width)) for _ in range(length))
                self.assertTrue(same(vector(table, reading), slow_vector(table, reading)))

    def test_edges(self):
        table = size_table()
        self.assertTrue(same(vector(table, ()), {"a": 1, "b": 0}))
        self.assertTrue(same(vector(reading=("1",) * 100, table=table), {"a": 1, "b": 2 ** 100 - 1}))
        assert_raises(self, BadWord, [("1",) * 101], vector, table, ("1",) * 101)
        apart = Table.of(2, 1, "e", ("f", "0", 1, "g"), h=1)
        self.assertEqual(vector(apart, ()), {"e": 1, "f": 0, "g": 0, "h": 0})
        self.assertEqual(vector(apart, ("0",)), {"e": 0, "f": 0, "g": 0, "h": 0})
        told = vector(table, ())
        told["a"] = 9
        self.assertEqual(vector(table, ()), {"a": 1, "b": 0})

    def test_what_is_refused(self):
        table = size_table()
        for value in odd_values():
            if not isinstance(value, Table):
                assert_raises(self, BadTable, ["table"], vector, value, None)
            if not isinstance(value, tuple):
                assert_raises(self, BadWord, [value], vector, table, value)
            if value not in ("0",):
                assert_raises(self, BadLetter, [value], vector, table, ("0", "1", value, "2"))
        for letter in ("2", "00", ""):
            assert_raises(self, BadLetter, [letter], vector, table, (letter,))
        assert_order(self, vector, {"table": table, "reading": ("0",)},
                     [({"table": 5}, BadTable, ["table"]), ({"reading": ["0"]}, BadWord, [["0"]])])
        assert_raises(self, BadWord, [(None,) * 101], vector, table, (None,) * 101)
        assert_raises(self, BadLetter, ["0"], vector, Table.of(2, 0, "e"), ("", "0"))


class Noughts(Closed):
    def test_small_tables(self):
        dice = random.Random(13)
        yes = 0
        for trial in range(250):
            base, width = dice.choice((2, 3)), dice.choice((0, 1, 1, 2))
            table = random_table(dice, base, width, 4 if width < 2 else 3, share=0.3)
            if dice.random() < 0.5:
                other = table.renamed(table.states[0], "new")
                table = dice.choice((table * 2 - other * 2, table * other - other * table, table + -other))
            if len(table) > 7:
                continue
            before = snapshot(table)
            paper = nought(table)
            self.assertTrue(same(snapshot(table), before))
            due = self.least(table, min(len(table) - 1, 3 if width < 2 else 2)) if paper else None
            if paper:
                yes += 1
                self.assertIs(type(paper), Nought)
                self.assert_closed([table], [1], paper)
                self.assertIsNone(due)
            else:
                self.assertIs(type(paper), Somewhere)
                length = paper.words if width == 0 else len(paper.words[0])
                self.assertLess(length, len(table))
                reading = self.least(table, length)
                self.assertTrue(same([paper.words, paper.value],
                                     [words_behind(reading, width), slow_value(table, reading)]))
        self.assertGreater(yes, 50)

    def test_the_least_reading_goes_digit_by_digit(self):
        table = Table.of(2, 2, "e", ("e", "01", 1, "f"), ("e", "10", 1, "g"), ("f", "10", 5, "h"), ("g", "00", 7, "h"),
                         h=1)
        self.assertEqual(nought(table), Somewhere(("01", "10"), 5))
        table = Table.of(2, 2, "e", ("e", "00", 1, "f"), ("e", "01", 1, "g"), ("f", "11", 5, "h"), ("g", "00", 7, "h"),
                         h=1)
        self.assertEqual(nought(table), Somewhere(("01", "01"), 5))

    def test_width_0_tells_a_length(self):
        self.assertTrue(same(vars(nought(chain(40, 2, 0, 3))), {"words": 39, "value": 3 ** 39}))
        self.assertTrue(same(vars(nought(Table.of(4, 0, "e", e=-2))), {"words": 0, "value": -2}))
        paper = nought(Table.of(2, 0, "e", ("e", "", 2, "e")))
        self.assertTrue(same(vars(paper), {"readings": ((),), "factors": {(0, ""): (1, (2,))}}))

    def test_words_of_each_width(self):
        for width in (1, 2, 3):
            self.assertTrue(same(vars(nought(Table.of(3, width, "e", e=4))), {"words": ("",) * width, "value": 4}))
            self.assertTrue(same(vars(nought(chain(40, 3, width, 1, "2" * width))),
                                 {"words": ("2" * 39,) * width, "value": 1}))

    def test_40_readings(self):
        table = ring(40, 2, 1)
        for state in table:
            table = table.with_end(state, 0)
        paper = nought(table)
        self.assertEqual(paper.readings, tuple(("0",) * length for length in range(40)))
        self.assert_closed([table], [1], paper)

    def test_factors_are_fractions(self):
        table = Table.of(2, 1, "e", ("e", "0", 2, "f"), ("e", "1", 3, "f"), ("f", "0", 5, "f"))
        paper = nought(table)
        self.assertEqual(paper.readings, ((), ("0",)))
        self.assertEqual(paper.factors, {(0, "0"): (1, (0, 1)), (0, "1"): (2, (0, 3)), (1, "0"): (1, (0, 5)),
                                         (1, "1"): (1, (0, 0))})

    def test_multiples_of_a_prime(self):
        for number in (PRIME, PRIME ** 2, PRIME ** 17, PRIME ** 18, PRIME * 2147483659):
            table = Table.of(2, 1, "e", ("e", "1", number, "f"), ("f", "1", number, "g"), g=1)
            self.assertEqual(nought(table), Somewhere(("11",), number ** 2))
            self.assert_closed([table.with_end("g", 0)], [1], nought(table.with_end("g", 0)))
            mixed = Table.of(2, 1, "e", ("e", "0", 1, "e"), ("e", "1", 1, "e"), ("e", "1", number, "f"), f=1)
            self.assertEqual(nought(mixed), Somewhere(("1",), number))

    def test_papers_belong_to_the_caller(self):
        table = equal(2) - equal(2)
        paper = nought(table)
        paper.factors.clear()
        self.assertGreater(len(nought(table).factors), 0)
        self.assertEqual(nought(table), nought(table))

    def test_what_is_refused(self):
        for value in odd_values():
            if not isinstance(value, Table):
                assert_raises(self, BadTable, ["table"], nought, value)
        self.assertEqual(nought(table=size_table()), Somewhere(("1",), 1))

    def test_40_states_in_time(self):
        begun = time.process_time()
        for base, width, steps in ((2, 0, 1600), (2, 0, 200), (2, 1, 2000), (2, 1, 150), (3, 1, 2000), (2, 2, 400),
                                   (4, 3, 2000)):
            table = crowded(base, width, 40, steps, 0)
            paper = nought(table)
            self.assertIs(type(paper), Nought)
            self.assertLess(time.process_time() - begun, 60)
        table = chain(40, 2, 2, 10 ** 20 + 7)
        self.assertEqual(nought(table), Somewhere(("0" * 39,) * 2, (10 ** 20 + 7) ** 39))
        table = crowded(2, 0, 40, 1600, 0)
        self.assert_closed([table], [1], nought(table))
        self.assertLess(time.process_time() - begun, 60)


class Alikes(Closed):
    def test_small_tables(self):
        dice = random.Random(14)
        yes = 0
        for trial in range(250):
            base, width = dice.choice((2, 3)), dice.choice((0, 1, 1, 2))
            one = random_table(dice, base, width, 3)
            other = random_table(dice, base, width, 3)
            choice = dice.randint(0, 5)
            if choice == 0:
                other = (one + other) - other
            elif choice == 1:
                other = one.trimmed()
            elif choice == 2:
                other = -one * -1
            elif choice == 3:
                other = one.with_end(one.start, one.ends.get(one.start, 0) + 1)
            before = snapshot((one, other))
            paper = alike(one, other)
            self.assertTrue(same(snapshot((one, other)), before))
            if paper:
                yes += 1
                self.assertIs(type(paper), Alike)
                self.assert_closed([one, other], [1, -1], paper)
                for length in range(4 if width < 2 else 3):
                    for reading in readings_of_length(base, width, length):
                        self.assertEqual(slow_value(one, reading), slow_value(other, reading))
            else:
                self.assertIs(type(paper), Apart)
                length = paper.words if width == 0 else len(paper.words[0])
                self.assert_least(one, other, length, paper)
        self.assertGreater(yes, 60)

    def assert_least(self, one, other, length, paper):
        for shorter in range(length + 1):
            for reading in readings_of_length(one.base, one.width, shorter):
                values = slow_value(one, reading), slow_value(other, reading)
                if values[0] != values[1]:
                    self.assertTrue(same(vars(paper), {"words": words_behind(reading, one.width), "one": values[0],
                                                       "other": values[1]}))
                    return
        self.fail("there is no such reading")

    def test_known_ones(self):
        self.assertTrue(alike(at_most(3) - equal(3), below(3)))
        self.assertEqual(alike(below(2), at_most(2)), Apart(("", ""), 0, 1))
        self.assertEqual(alike(one=below(2), other=~below(2)), Apart(("0", "1"), 1, 0))
        self.assertTrue(alike(~below(2) + equal(2), ~at_most(2)))
        self.assertTrue(alike(size_table(), size_table().renamed("b", "c")))

    def test_width_0_tells_a_length(self):
        self.assertTrue(same(vars(alike(chain(40, 2, 0), Table.of(2, 0, "e"))), {"words": 39, "one": 1, "other": 0}))
        self.assertTrue(same(vars(alike(Table.of(2, 0, "e", e=3), Table.of(2, 0, "f", f=4))),
                             {"words": 0, "one": 3, "other": 4}))

    def loop(self, many, at):
        """A ring of the width 0 with an end at one state alone."""
        table = ring(many, 2, 0)
        for state in table.states:
            table = table.with_end(state, int(state == f"r{at}"))
        return table

    def test_the_41st_reading(self):
        self.assertEqual(alike(self.loop(20, 19), chain(20, 2, 0)), Apart(39, 1, 0))
        assert_raises(self, TooMany, ["readings", 40], alike, self.loop(21, 19), chain(20, 2, 0))
        assert_raises(self, TooMany, ["readings", 40], alike, self.loop(40, 99), self.loop(39, 99))
        paper = alike(self.loop(20, 99), chain(20, 2, 0).with_end("c19", 0))
        self.assertEqual(len(paper.readings), 40)
        self.assertEqual(alike(self.loop(40, 0), self.loop(39, 1)), Apart(0, 1, 0))
        full = ring(40)
        self.assertEqual(len(alike(full, full).readings), 40)

    def test_what_is_refused(self):
        tables = [size_table(), equal(2), equal(3), Table.of(3, 1, "e")]
        assert_raises(self, Unlike, ["base"], alike, tables[0], tables[3])
        assert_raises(self, Unlike, ["base"], alike, tables[0], tables[2])
        assert_raises(self, Unlike, ["width"], alike, tables[0], tables[1])
        for value in odd_values():
            if not isinstance(value, Table):
                assert_raises(self, BadTable, ["one"], alike, value, tables[0])
                assert_raises(self, BadTable, ["one"], alike, value, None)
                assert_raises(self, BadTable, ["other"], alike, tables[0], value)
        assert_raises(self, Unlike, ["base"], alike, ring(40, 2, 1), ring(39, 3, 1))

    def test_first_apart(self):
        table = equal(3)
        same_ones = [at_most(3) * ~at_most(3), equal(3) + equal(3) - equal(3), table]
        self.assertIsNone(first_apart(table, []))
        self.assertIsNone(first_apart(table, ()))
        self.assertIsNone(first_apart(table, same_ones))
        self.assertIsNone(first_apart(one=table, others=tuple(same_ones)))
        for at in range(4):
            others = same_ones[:at] + [below(3)] + same_ones[at:] + [below(3)]
            self.assertTrue(same(first_apart(table, others), at))
            self.assertTrue(same(first_apart(table, tuple(others)), at))

    def test_first_apart_refuses(self):
        table = equal(2)
        for value in odd_values():
            if not isinstance(value, Table):
                assert_raises(self, BadTable, ["one"], first_apart, value, [value])
                assert_raises(self, BadTable, ["one"], first_apart, value, None)
                assert_raises(self, BadTable, [1], first_apart, table, [below(2), value, value])
                assert_raises(self, BadTable, [0], first_apart, table, (value, equal(3)))
            if not isinstance(value, (list, tuple)):
                assert_raises(self, BadTable, ["others"], first_apart, table, value)
        self.assertEqual(first_apart(table, [below(2), equal(3)]), 0)
        assert_raises(self, Unlike, ["base"], first_apart, table, [table, equal(3), below(2)])
        assert_raises(self, Unlike, ["width"], first_apart, table, [table, size_table()])
        assert_raises(self, BadTable, [2], first_apart, table, [table, equal(3), None])
        zero = self.loop(40, 99)
        assert_raises(self, TooMany, ["readings", 40], first_apart, zero, [zero, self.loop(39, 99)])
        assert_raises(self, BadTable, ["one"], first_apart, some_function, tree_scheme())

    def test_40_states_in_time(self):
        begun = time.process_time()
        for base, width, steps in ((2, 0, 1600), (2, 1, 2000), (2, 2, 300), (4, 3, 2000)):
            table = crowded(base, width, 40, steps, 3)
            other = table.renamed("q7", "a")
            self.assertIs(type(alike(table, other)), Alike)
            self.assertIs(type(alike(table, other.with_end("q2", 0))), Apart)
            silent = crowded(base, width, 40, steps, 0)
            assert_raises(self, TooMany, ["readings", 40], alike, silent, crowded(base, width, 40, steps, 0, seed=2))
        self.assertLess(time.process_time() - begun, 60)


def line_of(width, letter, end=3, many=40):
    """A chain of states that goes on by one letter alone."""
    steps = {(f"c{at}", letter): {f"c{at + 1}": 1} for at in range(many - 1)}
    return Table(2, width, "c0", steps, {f"c{many - 1}": end})


def both_ways(at, many=40):
    """A ring of states each of which leads to the next one by 0 and by 1, with one end."""
    steps = {(f"r{state}", digit): {f"r{(state + 1) % many}": 1} for state in range(many) for digit in "01"}
    return Table(2, 1, "r0", steps, {f"r{at}": 3})


class Sparse(unittest.TestCase):
    """Tables with many states and few steps: right answers, and quick ones."""

    def assert_closed(self, tables, signs, paper):
        self.assertTrue(is_closed(table_vectors(tables, signs), paper.readings, paper.factors))

    def test_chains(self):
        for width, letter in ((0, ""), (1, "1"), (1, "0"), (2, "10"), (3, "111"), (3, "010")):
            table = line_of(width, letter)
            words = 39 if width == 0 else tuple(digit * 39 for digit in letter)
            self.assertEqual(nought(table), Somewhere(words, 3))
            paper = nought(line_of(width, letter, 0))
            self.assertEqual(paper.readings, tuple((letter,) * length for length in range(40)))
            self.assert_closed([line_of(width, letter, 0)], [1], paper)

    def test_two_chains(self):
        one, other = line_of(1, "0", 0), line_of(1, "1", 0)
        assert_raises(self, TooMany, ["readings", 40], alike, one, other)
        single = Table(2, 1, "c0", {}, {})
        paper = alike(one, single)
        self.assertEqual(paper.readings, tuple(("0",) * length for length in range(40)))
        self.assert_closed([one, single], [1, -1], paper)
        self.assertEqual(alike(line_of(1, "0"), single), Apart(("0" * 39,), 3, 0))
        short = line_of(1, "0", 0, 20), line_of(1, "1", 0, 21)
        self.assert_closed(short, [1, -1], alike(*short))

    def test_rings(self):
        paper = alike(both_ways(7), both_ways(7))
        self.assertEqual(paper.readings, tuple(("0",) * length for length in range(40)))
        self.assert_closed([both_ways(7), both_ways(7)], [1, -1], paper)
        self.assertEqual(alike(both_ways(7), both_ways(8)), Apart(("0" * 7,), 3, 0))
        self.assertEqual(alike(both_ways(39), both_ways(8)), Apart(("0" * 8,), 0, 3))

    def test_many_questions_in_time(self):
        lines = [line_of(width, "1" * width, end) for width in (0, 1, 2, 3) for end in (0, 3)]
        one, other, single = line_of(1, "0", 0), line_of(1, "1", 0), Table(2, 1, "c0", {}, {})
        rings = both_ways(7), both_ways(7)
        begun = time.process_time()
        for _ in range(40):
            for table in lines:
                nought(table)
            assert not alike(line_of(1, "0"), single)
            self.assertRaises(TooMany, alike, one, other)
            alike(one, single)
            alike(*rings)
        # 480 questions: about a quarter of a second, where seconds mean a fault.
        self.assertLess(time.process_time() - begun, 3)


if __name__ == "__main__":
    unittest.main()
