"""Ranks: the greatest square of values with a determinant other than 0, and looks at them."""

import itertools
import random
import time
import unittest

from helpers import (
    assert_order, assert_raises, at_most, below, chain, crowded, equal, letters_of, odd_values, random_table,
    readings_of_length, ring, same, size_table, slow_value, snapshot, some_function, tree_scheme)
from sumdigits.errors import BadLetter, BadTable, BadWord
from sumdigits.papers import Verdict
from sumdigits.ranks import Rank, rank, shows_rank, value_at
from sumdigits.tables import Table


def pivots_of(rows):
    """The indexes of the rows that do not depend on those ahead of them, by elimination in integers."""
    kept = []
    found = []
    for at, row in enumerate(rows):
        row = list(row)
        for pivot, other in kept:
            if row[pivot]:
                row = [number * other[pivot] - row[pivot] * part for number, part in zip(row, other)]
        if any(row):
            kept.append((next(place for place, number in enumerate(row) if number), row))
            found.append(at)
    return found


def readings_up_to(table, most):
    """All readings of at most so many letters, shortest first, then in Python's order."""
    return [reading for length in range(most + 1)
            for reading in readings_of_length(table.base, table.width, length)]


def square_of(table, ahead, behind):
    return [[slow_value(table, one + other) for other in behind] for one in ahead]


def slow_rank(table, most):
    """The rank, if all readings that matter have at most so many letters."""
    readings = readings_up_to(table, most)
    square = square_of(table, readings, readings)
    ahead = pivots_of(square)
    behind = pivots_of(zip(*square))
    return Rank(len(ahead), tuple(readings[at] for at in ahead), tuple(readings[at] for at in behind))


def is_free(table, ahead, behind):
    return len(pivots_of(square_of(table, ahead, behind))) == len(ahead)


class Ranks(unittest.TestCase):
    def test_against_all_readings(self):
        dice = random.Random(40)
        ranks = {}
        for trial in range(150):
            base, width = dice.choice(((2, 0), (2, 1), (2, 1), (3, 1), (2, 2)))
            table = random_table(dice, base, width, 3 if base ** width < 4 else 2, share=0.35)
            if trial % 3 == 0 and base ** width < 4:
                table = dice.choice((table + table, table * -3, table.with_end("zz", 4), table - table))
            if len(table) > 4:
                continue
            before = snapshot(table)
            told = rank(table)
            self.assertTrue(same(snapshot(table), before))
            due = slow_rank(table, max(len(table) - 1, 1))
            self.assertTrue(same(vars(told), vars(due)), (str(table), vars(told), vars(due)))
            self.assertIs(shows_rank(table, told), True)
            ranks[told.number] = ranks.get(told.number, 0) + 1
        self.assertGreaterEqual(len(ranks), 4)

    def test_known_ones(self):
        self.assertEqual(rank(below(2)), Rank(2, ((), ("01",)), ((), ("01",))))
        self.assertEqual(rank(table=equal(3)), Rank(1, ((),), ((),)))
        self.assertEqual(rank(below(4) + below(4)).number, 2)
        self.assertEqual(rank(at_most(2) - equal(2)), rank(below(2)))
        self.assertEqual(rank(size_table()), Rank(2, ((), ("1",)), ((), ("1",))))
        for table in (equal(2) * 0, Table.of(2, 0, "e"), Table.of(4, 3, "e", ("e", "000", 1, "f"), g=1)):
            self.assertTrue(same(vars(rank(table)), {"number": 0, "ahead": (), "behind": ()}))

    def test_readings_ahead_and_behind_are_not_alike(self):
        table = Table.of(2, 1, "a", ("a", "0", 1, "b"), ("b", "1", 1, "c"), c=1)
        self.assertEqual(rank(table), Rank(3, ((), ("0",), ("0", "1")), ((), ("1",), ("0", "1"))))
        table = Table.of(2, 1, "a", ("a", "1", 1, "b"), ("a", "0", 1, "c"), ("b", "0", 1, "d"), ("c", "1", 1, "d"), d=1)
        told = rank(table)
        self.assertEqual(told.ahead, ((), ("0",), ("1",), ("0", "1")))
        self.assertEqual(told.behind, ((), ("0",), ("1",), ("0", "1")))

    def test_width_0(self):
        for many in (1, 2, 40):
            told = rank(chain(many, 2, 0))
            self.assertEqual(told, Rank(many, tuple(("",) * at for at in range(many)),
                                        tuple(("",) * at for at in range(many))))
        fibonacci = Table.of(2, 0, "a", ("a", "", 1, "a"), ("a", "", 1, "b"), ("b", "", 1, "a"), a=1)
        self.assertEqual(rank(fibonacci).number, 2)

    def test_chains_and_rings_of_40_states(self):
        for width in (0, 1, 2):
            self.assertEqual(rank(chain(40, 2, width)).number, 40)
            self.assertEqual(rank(ring(40, 2, width)).number, 40)
        told = rank(chain(40, 2, 1))
        self.assertEqual([told.ahead, told.behind], [tuple(("0",) * at for at in range(40))] * 2)

    def test_the_rank_is_less_than_the_states(self):
        one = below(2)
        self.assertEqual(rank(one.with_end("x", 3)).number, 2)
        copies = sum([one] * 5, one)
        self.assertGreater(len(copies), 7)
        self.assertEqual(rank(copies), rank(one))

    def test_what_is_refused(self):
        for value in odd_values():
            if not isinstance(value, Table):
                assert_raises(self, BadTable, ["table"], rank, value)

    def test_papers(self):
        for value in odd_values():
            self.assertTrue(same(vars(Rank(value, 1, 2)), {"number": value, "ahead": 1, "behind": 2}))
            self.assertTrue(same(vars(Rank(behind=value, ahead=1, number=2)), {"number": 2, "ahead": 1,
                                                                              "behind": value}))
            self.assertFalse(Rank(0, (), ()) == value)
        self.assertTrue(Rank(0, (), ()) == Rank(0, (), ()))
        for other in (Rank(1, (), ()), Rank(0, ((),), ()), Rank(0, (), ((),)), (0, (), ())):
            self.assertTrue(Rank(0, (), ()) != other)
        self.assertIn("__eq__", vars(Rank))
        self.assertFalse(issubclass(Rank, Verdict))


class Values(unittest.TestCase):
    def test_by_all_ways(self):
        dice = random.Random(41)
        for trial in range(80):
            base, width = dice.choice((2, 3, 4)), dice.choice((0, 1, 2, 3))
            table = random_table(dice, base, width)
            letters = letters_of(base, width)
            before = snapshot(table)
            for one, other in itertools.product(range(3), repeat=2):
                ahead = tuple(dice.choice(letters) for _ in range(one))
                behind = tuple(dice.choice(letters) for _ in range(other))
                self.assertTrue(same(value_at(table, ahead, behind), slow_value(table, ahead + behind)))
            self.assertTrue(same(snapshot(table), before))

    def test_100_letters_each(self):
        self.assertEqual(value_at(size_table(), ("1",) * 100, ("1",) * 100), 2 ** 200 - 1)
        self.assertEqual(value_at(behind=(), ahead=("1",) * 100, table=size_table()), 2 ** 100 - 1)
        assert_raises(self, BadWord, [("1",) * 101], value_at, size_table(), ("1",) * 101, ())
        assert_raises(self, BadWord, [("1",) * 101], value_at, size_table(), (), ("1",) * 101)
        self.assertEqual(value_at(Table.of(2, 0, "e", ("e", "", 2, "e"), e=3), ("",) * 100, ("",) * 100), 3 * 2 ** 200)

    def test_what_is_refused(self):
        table = size_table()
        for value in odd_values():
            if not isinstance(value, Table):
                assert_raises(self, BadTable, ["table"], value_at, value, None, None)
            if not isinstance(value, tuple):
                assert_raises(self, BadWord, [value], value_at, table, value, None)
                assert_raises(self, BadWord, [value], value_at, table, ("0",), value)
            if not isinstance(value, str) or value != "0":
                assert_raises(self, BadLetter, [value], value_at, table, ("0", value, "2"), None)
                assert_raises(self, BadLetter, [value], value_at, table, ("0",), (value,))
        assert_order(self, value_at, {"table": table, "ahead": ("0",), "behind": ("1",)},
                     [({"table": tree_scheme()}, BadTable, ["table"]), ({"ahead": ["0"]}, BadWord, [["0"]]),
                      ({"behind": some_function}, BadWord, [some_function])])
        assert_order(self, value_at, {"table": table, "ahead": ("0",), "behind": ("1",)},
                     [({"ahead": ("2",)}, BadLetter, ["2"]), ({"behind": ("1", "", "x")}, BadLetter, [""])])
        assert_raises(self, BadLetter, ["2"], value_at, table, ("2",), "no tuple")
        assert_raises(self, BadWord, [(None,) * 101], value_at, table, (None,) * 101, ())


class Looks(unittest.TestCase):
    def test_against_determinants(self):
        dice = random.Random(42)
        told = {True: 0, False: 0}
        for trial in range(150):
            base, width = dice.choice((2, 3)), dice.choice((0, 1, 1, 2))
            table = random_table(dice, base, width, 4)
            letters = letters_of(base, width)
            many = dice.randint(0, 4)
            ahead, behind = [tuple(tuple(dice.choice(letters) for _ in range(dice.randint(0, 2))) for _ in range(many))
                             for _ in range(2)]
            due = is_free(table, ahead, behind)
            told[due] += 1
            before = snapshot((table, ahead, behind))
            self.assertIs(shows_rank(table, Rank(many, ahead, behind)), due)
            self.assertTrue(same(snapshot((table, ahead, behind)), before))
            for number in (many + 1, many - 1, bool(many), str(many), None):
                self.assertIs(shows_rank(table, Rank(number, ahead, behind)), False)
            self.assertIs(shows_rank(table, Rank(many, list(ahead), behind)), False)
            self.assertIs(shows_rank(table, Rank(many, ahead, list(behind))), False)
            self.assertIs(shows_rank(table, Rank(many, ahead + ((),), behind)), False)
            self.assertIs(shows_rank(table, Rank(many, ahead, behind + ((),))), False)
            if many:
                self.assertIs(shows_rank(table, Rank(many, ahead[:-1], behind)), False)
                self.assertIs(shows_rank(table, Rank(many, ahead[:-1] + (list(ahead[-1]),), behind)), False)
                self.assertIs(shows_rank(table, Rank(many, ahead, behind[:-1] + (("5",),))), False)
            if many > 1:
                self.assertIs(shows_rank(table, Rank(many, ahead[:-1] + ahead[:1], behind)), False)
        self.assertGreater(min(told.values()), 30)

    def test_edges(self):
        for table in (equal(2), equal(2) * 0, chain(40, 2, 0)):
            self.assertIs(shows_rank(table, Rank(0, (), ())), True)
        table = size_table()
        self.assertIs(shows_rank(table, Rank(1, (("1",) * 100,), (("1",) * 100,))), True)
        self.assertIs(shows_rank(table, Rank(1, (("1",) * 101,), ((),))), False)
        self.assertIs(shows_rank(table, Rank(1, ((),), (("1",) * 101,))), False)
        self.assertIs(shows_rank(table, Rank(1, ((),), ((),))), False)
        full = chain(40, 2, 0)
        powers = tuple(("",) * at for at in range(41))
        self.assertIs(shows_rank(full, Rank(40, powers[:40], powers[:40])), True)
        self.assertIs(shows_rank(full, Rank(40, powers[1:], powers[:40])), False)
        self.assertIs(shows_rank(full, Rank(41, powers, powers)), False)
        self.assertIs(shows_rank(full, Rank(39, powers[1:40], powers[:39])), True)

    def test_rows_of_primes(self):
        prime = 2147483647
        for number in (prime, prime ** 17, prime * 2147483659):
            table = Table.of(2, 1, "e", ("e", "0", number, "f"), ("e", "1", 1, "g"), ("g", "0", number, "h"), f=1, h=2)
            told = rank(table)
            self.assertTrue(same(vars(told), vars(slow_rank(table, 2))))
            self.assertIs(shows_rank(table, told), True)

    def test_any_values(self):
        for table in (size_table(), chain(3, 2, 0), equal(2)):
            for value in odd_values():
                if not isinstance(value, Rank):
                    self.assertIs(shows_rank(table, value), False)
                self.assertIs(shows_rank(table, Rank(value, ((),), ((),))), False)
                self.assertIs(shows_rank(equal(2), Rank(1, ((),), (value,))), value == ())
                self.assertIs(shows_rank(equal(2), Rank(1, (value,), ((),))), value == ())
                self.assertIs(shows_rank(table, Rank(1, ((value,),), ((),))), False)
                self.assertIs(shows_rank(table, Rank(0, value, ())), value == ())
                self.assertIs(shows_rank(table, Rank(0, (), value)), value == ())

    def test_what_is_refused(self):
        for value in odd_values():
            if not isinstance(value, Table):
                assert_raises(self, BadTable, ["table"], shows_rank, value, Rank(0, (), ()))
                assert_raises(self, BadTable, ["table"], shows_rank, value, None)
        self.assertIs(shows_rank(value=Rank(0, (), ()), table=equal(2)), True)

    def test_40_states_in_time(self):
        begun = time.process_time()
        for base, width, steps in ((2, 0, 1600), (2, 1, 2000), (2, 2, 400), (4, 3, 2000)):
            table = crowded(base, width, 40, steps, 3, 1)
            told = rank(table)
            self.assertEqual(told.number, 40)
            self.assertIs(shows_rank(table, told), True)
            self.assertIs(shows_rank(table, Rank(40, told.ahead[:39] + told.ahead[:1], told.behind)), False)
            half = crowded(base, width, 19, steps // 4, 3, 1)
            self.assertEqual(rank(half + half), rank(half))
        dice = random.Random(43)
        table = crowded(2, 1, 40, 2000, 3, 1)
        many = [tuple(dice.choice("01") for _ in range(100)) for _ in range(80)]
        self.assertIs(shows_rank(table, Rank(40, tuple(many[:40]), tuple(many[40:]))), True)
        self.assertIs(shows_rank(table, Rank(40, tuple(many[:39] + many[:1]), tuple(many[40:]))), False)
        self.assertLess(time.process_time() - begun, 30)


if __name__ == "__main__":
    unittest.main()
