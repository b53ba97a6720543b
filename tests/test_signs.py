"""Sums and products of tables: their values, what they refuse, their bounds."""

import itertools
import random
import time
import unittest

from helpers import (
    assert_raises, below, chain, crowded, equal, is_trimmed, letters_of, odd_values, random_table, readings_of_length,
    ring, same, size_table, slow_at, slow_value, snapshot, some_function, words_of_length)
from sumdigits.errors import BadBase, BadPlace, BadTable, BadWidth, TooMany, Unlike
from sumdigits.tables import Table

BITS = ["00", "01", "10", "11"]


def word_tuples(base, width, length):
    return list(itertools.product(words_of_length(base, length), repeat=width))


def value_at(table, words, length):
    """The value at words, also of the width 0."""
    return table[words] if table.width else table.total(length)


def chosen(dice, rows, many=12):
    return rows if len(rows) <= many else dice.sample(rows, many)


class Values(unittest.TestCase):
    def assert_values(self, made, base, width, due):
        """The table is trimmed and tells due(letters) at readings of up to three letters."""
        self.assertTrue(same([made.base, made.width], [base, width]))
        self.assertTrue(is_trimmed(made))
        for length in range(4):
            for letters in chosen(self.dice, readings_of_length(base, width, length)):
                self.assertTrue(same(slow_value(made, letters), due(letters)), (str(made), letters))

    def setUp(self):
        self.dice = random.Random(7)

    def pairs(self, bases, widths, many):
        for trial in range(many):
            base, width = self.dice.choice(bases), self.dice.choice(widths)
            share = self.dice.choice((0.2, 0.5))
            yield (base, width, random_table(self.dice, base, width, 3, share=share),
                   random_table(self.dice, base, width, 3, share=share))

    def test_sums_and_products_of_values(self):
        for base, width, one, other in self.pairs((2, 3, 4), (0, 1, 2), 60):
            before = snapshot((one, other))
            self.assert_values(one + other, base, width, lambda w: slow_value(one, w) + slow_value(other, w))
            self.assert_values(one - other, base, width, lambda w: slow_value(one, w) - slow_value(other, w))
            self.assert_values(one * other, base, width, lambda w: slow_value(one, w) * slow_value(other, w))
            self.assertTrue(same(snapshot((one, other)), before))

    def test_numbers(self):
        for base, width, table, _ in self.pairs((2, 3), (0, 1, 3), 20):
            for number in (0, 1, -1, 7, -10 ** 40):
                self.assert_values(table * number, base, width, lambda w: slow_value(table, w) * number)
                self.assertEqual(number * table, table * number)
            self.assert_values(-table, base, width, lambda w: -slow_value(table, w))
        self.assertEqual((size_table() * 0).states, ("a",))

    def test_words_in_the_reverse_order(self):
        for base, width, table, _ in self.pairs((2, 3), (0, 1, 2, 3), 40):
            self.assert_values(~table, base, width, lambda w: slow_value(table, [letter[::-1] for letter in w]))
            self.assertEqual(~~table, table.trimmed())
        lines = Table.of(2, 3, "e", ("e", "001", 1, "e"), ("e", "100", 2, "e"), e=1)
        self.assertEqual([(~lines)["0", "0", "1"], (~lines)["1", "0", "0"], (~lines)["0", "1", "0"]], [2, 1, 0])

    def test_sums_over_the_words_between(self):
        for base, width, one, other in self.pairs((2, 3, 4), (2,), 25):
            made = one >> other
            self.assertTrue(same([made.base, made.width], [base, 2]))
            self.assertTrue(is_trimmed(made))
            for length in range(3 if base < 4 else 2):
                for i, j in chosen(self.dice, word_tuples(base, 2, length)):
                    due = sum(slow_at(one, i, k) * slow_at(other, k, j) for k in words_of_length(base, length))
                    self.assertEqual(slow_at(made, i, j), due)

    def test_both_bits(self):
        for _, width, one, other in self.pairs((2,), (0, 1, 2, 3), 40):
            def due(letters):
                high = ["".join(BITS[int(digit)][0] for digit in letter) for letter in letters]
                low = ["".join(BITS[int(digit)][1] for digit in letter) for letter in letters]
                return slow_value(one, high) * slow_value(other, low)
            self.assert_values(one | other, 4, width, due)

    def test_summed(self):
        for base, width, table, _ in self.pairs((2, 3), (1, 2, 3), 40):
            for place in range(width):
                made = table.summed(place)
                self.assertTrue(same([made.base, made.width], [base, width - 1]))
                self.assertTrue(is_trimmed(made))
                for length in range(3):
                    for words in chosen(self.dice, word_tuples(base, width - 1, length)):
                        due = sum(slow_at(table, *words[:place], word, *words[place:])
                                  for word in words_of_length(base, length))
                        self.assertEqual(value_at(made, words, length), due)

    def test_placed(self):
        for base, width, table, _ in self.pairs((2, 3), (0, 1, 2, 3), 60):
            wide = self.dice.randint(width, 3)
            places = self.dice.sample(range(wide), width)
            made = table.placed(wide, *places)
            self.assert_values(made, base, wide, lambda w: slow_value(
                table, ["".join(letter[place] for place in places) for letter in w]))
        self.assertEqual(size_table().placed(1, 0), size_table())
        self.assertEqual(below(2).placed(2, 1, 0), ~below(2))
        self.assertEqual(below(2).placed(3, 2, 0)["11", "00", "01"], 1)

    def test_steps_that_add_up_to_0(self):
        one = Table.of(2, 2, "e", ("e", "00", 1, "f"), ("e", "01", 1, "g"), ("e", "11", 1, "e"), f=1, g=1, e=1)
        other = Table.of(2, 2, "e", ("e", "00", 1, "f"), ("e", "10", -1, "f"), ("f", "00", 1, "f"), f=1)
        made = one.summed(1)
        self.assertEqual(len(made), 3)
        gone = Table.of(2, 2, "e", ("e", "00", 1, "f"), ("e", "01", -1, "f"), ("f", "00", 1, "f"), f=1)
        self.assertTrue(same([gone.summed(1).states, gone.summed(1).steps], [("e",), {}]))
        self.assertEqual(len(gone.summed(0)), 2)
        link = Table.of(2, 2, "e", ("e", "00", 1, "f"), ("e", "01", 1, "f"), ("f", "00", 1, "f"), f=1)
        self.assertEqual((link >> other).states, ((link >> other).start,))
        self.assertEqual((size_table() - size_table())["101"], 0)


class Refusals(unittest.TestCase):
    def test_other_kinds_on_the_right(self):
        table = size_table()
        wide = equal(2)
        for value in odd_values():
            if not isinstance(value, Table):
                assert_raises(self, BadTable, ["other"], lambda: table + value)
                assert_raises(self, BadTable, ["other"], lambda: table - value)
                assert_raises(self, BadTable, ["other"], lambda: table >> value)
                assert_raises(self, BadTable, ["other"], lambda: wide >> value)
                assert_raises(self, BadTable, ["other"], lambda: table | value)
                if not isinstance(value, int) or isinstance(value, bool):
                    assert_raises(self, BadTable, ["other"], lambda: table * value)

    def test_other_kinds_on_the_left_of_a_product(self):
        table = size_table()
        for value in [None, True, False, "x", "", (), (1,), [], [1], {}, {"e": 1}, some_function]:
            assert_raises(self, BadTable, ["other"], lambda: value * table)
        for number in (0, 1, -3):
            self.assertEqual(number * table, table * number)

    def test_unlike(self):
        narrow, wide, other_base = size_table(), equal(2), equal(3)
        signs = [lambda one, other: one + other, lambda one, other: one - other, lambda one, other: one * other,
                 lambda one, other: one >> other, lambda one, other: one | other]
        for sign in signs:
            assert_raises(self, Unlike, ["base"], sign, wide, other_base)
            assert_raises(self, Unlike, ["base"], sign, narrow, other_base)
            assert_raises(self, Unlike, ["width"], sign, narrow, wide)
            assert_raises(self, Unlike, ["width"], sign, wide, narrow)

    def test_widths_and_bases(self):
        for width in (0, 1, 3):
            table = Table.of(2, width, "e", e=1)
            assert_raises(self, BadWidth, [width], lambda: table >> table)
        for base in (3, 4):
            for width in range(4):
                table = Table.of(base, width, "e", e=1)
                assert_raises(self, BadBase, [base], lambda: table | table)
        assert_raises(self, Unlike, ["width"], lambda: Table.of(3, 1, "e") | Table.of(3, 2, "e"))
        assert_raises(self, Unlike, ["base"], lambda: Table.of(3, 1, "e") | Table.of(2, 1, "e"))

    def test_places_to_sum_over(self):
        for width in range(4):
            table = Table.of(2, width, "e", e=1)
            for place in [None, True, False, -1, width, 10 ** 30, "0", (0,), [0], {}, some_function, table]:
                assert_raises(self, BadPlace, [place], table.summed, place)
            for place in range(width):
                self.assertEqual(table.summed(place=place).width, width - 1)

    def test_places_to_stand_at(self):
        for width in range(4):
            table = Table.of(2, width, "e", e=1)
            for wide in [None, True, False, width - 1, 4, -1, "2", (2,), [2], {}, some_function, table]:
                assert_raises(self, BadWidth, [wide], table.placed, wide, *range(width))
                assert_raises(self, BadWidth, [wide], table.placed, wide, None)
            for many in range(5):
                if many != width:
                    assert_raises(self, Unlike, ["places"], table.placed, 3, *["x"] * many)
            for at in range(width):
                for place in [None, True, False, -1, 3, "0", (0,), [0], {}, some_function, table]:
                    places = [0, 1, 2][:at] + [place] + ["x", None][:width - at - 1]
                    assert_raises(self, BadPlace, [place], table.placed, 3, *places)
        pair = Table.of(2, 2, "e", e=1)
        assert_raises(self, BadPlace, [2], pair.placed, 2, 0, 2)
        assert_raises(self, BadPlace, [0], pair.placed, 3, 0, 0)
        assert_raises(self, BadPlace, [1], Table.of(2, 3, "e", e=1).placed, 3, 1, 2, 1)
        assert_raises(self, BadPlace, [0], Table.of(2, 3, "e", e=1).placed, 3, 0, 0, 5)


class Bounds(unittest.TestCase):
    def test_states_of_a_sum(self):
        for sign in (lambda one, other: one + other, lambda one, other: one - other):
            self.assertEqual(len(sign(ring(20), ring(19))), 40)
            assert_raises(self, TooMany, ["states", 40], sign, ring(20), ring(20))
            self.assertEqual(len(sign(chain(20), chain(21))), 40)
            assert_raises(self, TooMany, ["states", 40], sign, chain(21), chain(21))
            self.assertEqual(len(sign(ring(39), Table.of(2, 1, "x"))), 40)
            self.assertEqual(len(sign(chain(40), Table.of(2, 1, "x", x=1))), 40)
            assert_raises(self, TooMany, ["states", 40], sign, ring(40), Table.of(2, 1, "x"))
            useless = ring(40).with_step("r0", "0", 0, "r1")
            self.assertEqual(len(sign(useless, useless)), 1)

    def test_states_of_products(self):
        signs = [lambda one, other: one * other, lambda one, other: one | other]
        for sign in signs:
            self.assertEqual(len(sign(ring(5), ring(8))), 40)
            assert_raises(self, TooMany, ["states", 40], sign, ring(6), ring(7))
            self.assertEqual(len(sign(ring(40), ring(40))), 40)
            self.assertEqual(len(sign(chain(40), chain(40))), 40)
            self.assertEqual(len(sign(chain(30), chain(40))), 1)
            begun = [ring(many).with_step("s", "0", 1, "r0").begun("s") for many in (3, 5)]
            self.assertEqual(len(sign(begun[0], ring(13))), 40)
            assert_raises(self, TooMany, ["states", 40], sign, begun[1], ring(8))

    def test_states_of_links(self):
        one, other = ring(5, 2, 2), ring(8, 2, 2)
        self.assertEqual(len(one >> other), 40)
        assert_raises(self, TooMany, ["states", 40], lambda: ring(6, 2, 2) >> ring(7, 2, 2))
        self.assertEqual(len(ring(5, 2, 2, "01") >> ring(8, 2, 2, "01")), 1)
        self.assertEqual(len(ring(5, 2, 2, "01") >> ring(8, 2, 2, "10")), 40)

    def test_states_of_the_others(self):
        full = ring(40, 2, 2)
        for made in (-full, full * 3, 3 * full, ~full, full.summed(0), full.summed(1), full.placed(3, 2, 0)):
            self.assertEqual(len(made), 40)

    def sized(self, many):
        """A table of 18 states, none of which leads back to the start, and so many steps."""
        names = [f"n{at}" for at in range(17)]
        keys = [(state, letter, goal) for goal in names for state in names for letter in letters_of(2, 2)]
        steps = {("s", "00"): {name: 1 for name in names}}
        for state, letter, goal in keys[:many - 17]:
            steps.setdefault((state, letter), {})[goal] = 1
        return Table(2, 2, "s", steps, {name: 1 for name in names})

    def test_steps_of_a_sum(self):
        thousand, more = self.sized(1000), self.sized(1001)
        self.assertEqual(sum(len(goals) for goals in (thousand + thousand).steps.values()), 2000)
        assert_raises(self, TooMany, ["steps", 2000], lambda: thousand + more)
        assert_raises(self, TooMany, ["steps", 2000], lambda: more - thousand)

    def test_steps_of_products(self):
        letters = letters_of(4, 3)
        loops = Table(4, 3, "a", {(state, letter): {goal: 1 for goal in "abcde"} for state in "abcde"
                                  for letter in letters[:20]}, {state: 1 for state in "abcde"})
        pair = Table(4, 3, "a", {(state, letter): {goal: 1 for goal in "ab"} for state in "ab"
                                 for letter in letters[:20]}, {"a": 1, "b": 1})
        self.assertEqual(sum(len(goals) for goals in (loops * pair).steps.values()), 2000)
        more = pair.with_step("a", letters[20], 1, "a")
        self.assertEqual(loops * more, loops * pair)
        other = loops.with_step("a", letters[20], 1, "a")
        assert_raises(self, TooMany, ["steps", 2000], lambda: other * more)

    def test_steps_of_placed(self):
        names = [f"n{at}" for at in range(16)]
        keys = [(state, letter, goal) for state in names for letter in "01" for goal in names]
        steps = {}
        for state, letter, goal in keys[:500]:
            steps.setdefault((state, letter), {})[goal] = 1
        table = Table(2, 1, "n0", steps, {name: 1 for name in names})
        self.assertEqual(sum(len(goals) for goals in table.placed(3, 1).steps.values()), 2000)
        more = table.with_step(*keys[500][:2], 1, keys[500][2])
        assert_raises(self, TooMany, ["steps", 2000], more.placed, 3, 1)
        self.assertEqual(sum(len(goals) for goals in more.placed(2, 1).steps.values()), 1002)

    def test_near_40_states_in_time(self):
        begun = time.process_time()
        for base, width, steps in ((2, 0, 1600), (2, 1, 2000), (2, 2, 2000), (4, 2, 400), (4, 3, 2000)):
            one, other = crowded(base, width, 40, steps, 40), crowded(base, width, 40, steps, 1, seed=2)
            signs = [lambda: one + other, lambda: one - other, lambda: one * other]
            if width == 2:
                signs.append(lambda: one >> other)
            if base == 2:
                signs.append(lambda: one | other)
            for sign in signs:
                assert_raises(self, TooMany, ["states", 40], sign)
            for made in (-one, ~one, one * 7):
                self.assertEqual(len(made), 40)
        self.assertLess(time.process_time() - begun, 60)


if __name__ == "__main__":
    unittest.main()
