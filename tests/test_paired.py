"""Schemes beside one another: words of pairs, planes, and what they are right for."""

import itertools
import random
import unittest
from math import lcm

from helpers import (
    assert_order, assert_raises, at_most, below, equal, odd_values, random_table, same, slow_at, snapshot,
    some_function, tree_scheme, words_of_length)
from sumdigits import known
from sumdigits.errors import BadBase, BadScheme, BadWord, TooMany
from sumdigits.judged import judge, told_at
from sumdigits.paired import beside, pair_word, parted
from sumdigits.schemes import Plane, Scheme
from sumdigits.tables import Table
from test_judged import ring_of


def some_scheme(dice, planes):
    return Scheme(*[Plane(random_table(dice, 2, 2, 2), random_table(dice, 2, 2, 2)) for _ in range(planes)])


class Words(unittest.TestCase):
    def test_both_ways(self):
        for length in range(5):
            words = words_of_length(2, length)
            for one, other in itertools.product(words, repeat=2):
                word = pair_word(one, other)
                self.assertEqual(word, "".join(str(2 * int(a) + int(b)) for a, b in zip(one, other)))
                self.assertTrue(same(parted(word), (one, other)))
            for word in words_of_length(4, min(length, 3)):
                self.assertEqual(pair_word(*parted(word)), word)

    def test_by_hand(self):
        self.assertEqual([pair_word("", ""), pair_word("0011", "0101"), pair_word(other="1", one="0")], ["", "0123", "1"])
        self.assertEqual([parted(""), parted("0123"), parted(word="2")], [("", ""), ("0011", "0101"), ("1", "0")])

    def test_100_and_101_digits(self):
        for length in (99, 100):
            self.assertEqual(pair_word("1" * length, "0" * length), "2" * length)
            self.assertEqual(parted("1" * length), ("0" * length, "1" * length))
        assert_raises(self, BadWord, ["1" * 101], pair_word, "1" * 101, "1" * 101)
        assert_raises(self, BadWord, ["1" * 101], pair_word, "1" * 100, "1" * 101)
        assert_raises(self, BadWord, ["0" * 101], parted, "0" * 101)

    def test_what_is_refused(self):
        for value in odd_values():
            if not isinstance(value, str) or value not in ("", "0"):
                assert_raises(self, BadWord, [value], pair_word, value, "0")
                assert_raises(self, BadWord, [value], pair_word, value, value)
                assert_raises(self, BadWord, [value], pair_word, value, None)
                assert_raises(self, BadWord, [value], pair_word, "0", value)
                assert_raises(self, BadWord, [value], parted, value)
        for one, other, due in (("0", "", ""), ("", "1", "1"), ("01", "1", "1"), ("01", "110", "110"),
                                ("2", "0", "2"), ("0", "2", "2"), ("2", "3", "2"), ("0", "12", "12")):
            assert_raises(self, BadWord, [due], pair_word, one, other)
        for word in ("4", "-", "0 1", "12\n"):
            assert_raises(self, BadWord, [word], parted, word)
        assert_order(self, pair_word, {"one": "0", "other": "1"},
                     [({"one": ("0",)}, BadWord, [("0",)]), ({"other": some_function}, BadWord, [some_function])])


class Beside(unittest.TestCase):
    def test_order_of_the_planes(self):
        dice = random.Random(90)
        for many, more in ((1, 1), (2, 3), (3, 2), (1, 8), (8, 1), (2, 4), (4, 2)):
            one, other = some_scheme(dice, many), some_scheme(dice, more)
            before = snapshot((one, other))
            both = beside(one, other)
            self.assertTrue(same(snapshot((one, other)), before))
            self.assertTrue(same([type(both), both.base, len(both)], [Scheme, 4, many * more]))
            due = [Plane(plane.change | mate.change, plane.question | mate.question) for plane in one for mate in other]
            self.assertEqual(list(both), due)

    def test_products_of_both_values(self):
        dice = random.Random(91)
        for trial in range(15):
            one, other = some_scheme(dice, 2), some_scheme(dice, dice.randint(1, 2))
            both = beside(one, other)
            for length in range(3):
                for first, second in itertools.product(words_of_length(4, length), repeat=2):
                    (a, b), (c, d) = parted(first), parted(second)
                    self.assertEqual(told_at(both, first, second), told_at(one, a, c) * told_at(other, b, d))
                    for at, plane in enumerate(both):
                        upper, lower = one[at // len(other)], other[at % len(other)]
                        self.assertEqual(slow_at(plane.change, first, second),
                                         slow_at(upper.change, a, c) * slow_at(lower.change, b, d))
                        self.assertEqual(slow_at(plane.question, first, second),
                                         slow_at(upper.question, a, c) * slow_at(lower.question, b, d))

    def test_right_for_both(self):
        schemes = [(known.plain_scheme(2), equal(2)), (known.running_scheme(2), at_most(2)), (tree_scheme(), below(2)),
                   (known.tree_with_entries(2), at_most(2)), (known.halves_scheme(), known.power(2, 2))]
        for (one, wanted), (other, due) in itertools.product(schemes, repeat=2):
            self.assertTrue(judge(beside(one, other), wanted | due))
        dice = random.Random(92)
        for trial in range(20):
            one, other = some_scheme(dice, 1), some_scheme(dice, 2)
            self.assertTrue(judge(beside(one, other), one.answers() | other.answers()))
        self.assertFalse(judge(beside(tree_scheme(), tree_scheme()), below(2) | at_most(2)))

    def test_sums_over_rectangles(self):
        """Two running totals: the sum of all entries up to a row and up to a column."""
        both = beside(known.running_scheme(2), known.running_scheme(2))
        words = words_of_length(2, 2)
        for first, second in itertools.product(words, repeat=2):
            told = sum(told_at(both, pair_word(a, b), pair_word(first, second)) for a in words for b in words)
            self.assertEqual(told, (int(first, 2) + 1) * (int(second, 2) + 1))

    def test_too_many_planes_and_states(self):
        dice = random.Random(93)
        for many, more in ((3, 3), (2, 5), (8, 2), (8, 8)):
            assert_raises(self, TooMany, ["planes", 8], beside, some_scheme(dice, many), some_scheme(dice, more))
        rings = {many: Scheme(Plane(ring_of(many, 2, 1), equal(2))) for many in (3, 5, 6, 7, 8, 13)}
        for one, other in itertools.product(rings, repeat=2):
            if lcm(one, other) > 40:
                assert_raises(self, TooMany, ["states", 40], beside, rings[one], rings[other])
                assert_raises(self, TooMany, ["states", 40], beside, ~rings[one], ~rings[other])
            else:
                self.assertEqual(len(beside(rings[one], rings[other])[0].change), lcm(one, other))
        # Too many planes come ahead of too many states.
        assert_raises(self, TooMany, ["planes", 8], beside, Scheme(*[rings[7][0]] * 3), Scheme(*[rings[8][0]] * 3))
        assert_raises(self, TooMany, ["states", 40], beside, Scheme(*[rings[7][0]] * 2), Scheme(*[rings[8][0]] * 4))

    def test_what_is_refused(self):
        tree = tree_scheme()
        for value in odd_values():
            if not isinstance(value, Scheme):
                assert_raises(self, BadScheme, ["one"], beside, value, tree)
                assert_raises(self, BadScheme, ["one"], beside, value, value)
                assert_raises(self, BadScheme, ["other"], beside, tree, value)
                assert_raises(self, BadScheme, ["other"], beside, known.tree_scheme(3), value)
        for one, other, base in ((2, 3, 3), (3, 2, 3), (3, 4, 3), (4, 3, 4), (2, 4, 4), (4, 4, 4)):
            assert_raises(self, BadBase, [base], beside, known.tree_scheme(one), known.tree_with_entries(other))
        three = known.tree_scheme(3)
        assert_raises(self, BadBase, [3], beside, Scheme(*[tree[0]] * 8), Scheme(*[three[0]] * 8))
        assert_order(self, beside, {"one": tree, "other": tree},
                     [({"one": tree[0]}, BadScheme, ["one"]), ({"other": below(2)}, BadScheme, ["other"])])

    def test_tables_without_ends(self):
        nothing = Scheme(Plane(Table.of(2, 2, "x"), equal(2)))
        both = beside(nothing, tree_scheme())
        self.assertEqual([len(both[0].change), told_at(both, "0", "3")], [1, 0])


if __name__ == "__main__":
    unittest.main()
