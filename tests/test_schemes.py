"""Planes and schemes: how they are made, their answers, their texts, their rows."""

import random
import time
import unittest

from helpers import (
    assert_order, assert_raises, at_most, below, chain, crowded, equal, odd_values, random_table, ring, same,
    size_table, slow_at, snapshot, some_function, tree_scheme, words_of_length)
from sumdigits.errors import (
    BadPlane, BadScheme, BadTable, BadText, BadWidth, BadWord, NoPlane, TooMany, Unlike)
from sumdigits.schemes import Plane, Scheme, row_of
from sumdigits.tables import Table


def some_plane(dice, base):
    return Plane(random_table(dice, base, 2, 3), random_table(dice, base, 2, 3))


def slow_answer(plane, entry, question):
    cells = words_of_length(plane.change.base, len(entry))
    return sum(slow_at(plane.change, entry, cell) * slow_at(plane.question, question, cell) for cell in cells)


class Planes(unittest.TestCase):
    def test_attributes(self):
        one, other = below(2), equal(2)
        plane = Plane(one, other)
        self.assertTrue(same([plane.change, plane.question], [one, other]))
        turned = Plane(question=one, change=other)
        self.assertTrue(same([turned.change, turned.question], [other, one]))
        before = snapshot(plane)
        self.assertEqual(~plane, turned)
        self.assertEqual(~~plane, plane)
        plane.answers()
        str(plane)
        self.assertTrue(same(snapshot(plane), before))

    def test_answers(self):
        dice = random.Random(15)
        for trial in range(40):
            base = dice.choice((2, 3))
            plane = some_plane(dice, base)
            made = plane.answers()
            self.assertTrue(same([made.base, made.width], [base, 2]))
            for length in range(3):
                for entry in words_of_length(base, length):
                    for question in words_of_length(base, length):
                        self.assertEqual(slow_at(made, entry, question), slow_answer(plane, entry, question))

    def test_answers_raise_as_products_do(self):
        assert_raises(self, TooMany, ["states", 40], Plane(ring(6, 2, 2), ring(7, 2, 2)).answers)
        self.assertEqual(len(Plane(ring(5, 2, 2), ring(8, 2, 2)).answers()), 40)

    def test_equality(self):
        plane = Plane(below(2), equal(2))
        self.assertTrue(plane == Plane(below(2), equal(2)))
        self.assertFalse(plane != Plane(below(2), equal(2)))
        for other in (Plane(equal(2), below(2)), Plane(below(2), at_most(2)), Plane(at_most(2), equal(2))):
            self.assertFalse(plane == other)
        for value in odd_values():
            self.assertFalse(plane == value)
        self.assertFalse(plane == Scheme(plane))

    def test_str(self):
        self.assertEqual(str(Plane(equal(2), Table.of(2, 2, "a", ("a", "01", -3, "b")))),
                         "2 2 e e:00*1>e e:11*1>e e=1 ; 2 2 a a:01*-3>b")

    def test_what_is_refused(self):
        narrow, wide = size_table(), Table.of(2, 3, "e")
        for value in odd_values():
            if not isinstance(value, Table):
                assert_raises(self, BadPlane, ["change"], Plane, value, equal(2))
                assert_raises(self, BadPlane, ["change"], Plane, value, None)
                assert_raises(self, BadPlane, ["question"], Plane, equal(2), value)
                assert_raises(self, BadPlane, ["question"], Plane, narrow, value)
        assert_raises(self, Unlike, ["base"], Plane, equal(2), equal(3))
        assert_raises(self, Unlike, ["base"], Plane, narrow, Table.of(3, 3, "e"))
        assert_raises(self, BadWidth, [1], Plane, narrow, equal(2))
        assert_raises(self, BadWidth, [1], Plane, narrow, wide)
        assert_raises(self, BadWidth, [3], Plane, equal(2), wide)
        assert_raises(self, BadWidth, [0], Plane, equal(3), Table.of(3, 0, "e"))


class Schemes(unittest.TestCase):
    def setUp(self):
        self.tree = tree_scheme()
        self.own = Scheme(Plane(equal(2), equal(2)))

    def test_attributes(self):
        planes = (self.tree[0], self.own[0])
        scheme = Scheme(*planes)
        self.assertTrue(same([scheme.planes, scheme.base, len(scheme)], [planes, 2, 2]))
        self.assertEqual([plane for plane in scheme], list(planes))
        self.assertIs(type(scheme.planes), tuple)
        self.assertEqual(Scheme(Plane(equal(4), equal(4))).base, 4)

    def test_one_to_eight_planes(self):
        plane = self.own[0]
        for many in range(1, 9):
            self.assertEqual(len(Scheme(*[plane] * many)), many)
        for many in (9, 10, 50):
            assert_raises(self, TooMany, ["planes", 8], Scheme, *[plane] * many)

    def test_what_is_refused(self):
        plane, other = self.own[0], Plane(equal(3), equal(3))
        assert_raises(self, BadScheme, ["planes"], Scheme)
        for value in odd_values():
            if not isinstance(value, Plane):
                assert_raises(self, BadScheme, ["planes"], Scheme, value)
                assert_raises(self, BadScheme, ["planes"], Scheme, plane, value, other)
                assert_raises(self, BadScheme, ["planes"], Scheme, *[plane, other] * 5, value)
        assert_raises(self, Unlike, ["base"], Scheme, plane, other)
        assert_raises(self, Unlike, ["base"], Scheme, *[plane] * 7, other)
        assert_raises(self, TooMany, ["planes", 8], Scheme, *[plane] * 8, other)

    def test_answers(self):
        dice = random.Random(16)
        for trial in range(30):
            base = dice.choice((2, 3))
            scheme = Scheme(*[Plane(random_table(dice, base, 2, 2), random_table(dice, base, 2, 2))
                              for _ in range(dice.randint(1, 3))])
            before = snapshot(scheme)
            made, turned = scheme.answers(), (~scheme).answers()
            self.assertTrue(same(snapshot(scheme), before))
            for length in range(3):
                for entry in words_of_length(base, length):
                    for question in words_of_length(base, length):
                        due = sum(slow_answer(plane, entry, question) for plane in scheme)
                        self.assertEqual(slow_at(made, entry, question), due)
                        self.assertEqual(slow_at(turned, question, entry), due)
        assert_raises(self, TooMany, ["states", 40], Scheme(Plane(ring(6, 2, 2), ring(7, 2, 2))).answers)
        big = Plane(ring(5, 2, 2), ring(8, 2, 2))
        assert_raises(self, TooMany, ["states", 40], Scheme(big, big).answers)

    def test_sums_of_schemes(self):
        both = self.tree + self.own
        self.assertEqual(both.planes, (self.tree[0], self.own[0]))
        self.assertEqual([len(self.tree), len(self.own)], [1, 1])
        eight = Scheme(*[self.own[0]] * 8)
        other = Scheme(Plane(equal(3), equal(3)))
        for value in odd_values():
            if not isinstance(value, Scheme):
                assert_raises(self, BadScheme, ["other"], lambda: self.tree + value)
        assert_raises(self, Unlike, ["base"], lambda: self.tree + other)
        assert_raises(self, Unlike, ["base"], lambda: eight + other)
        assert_raises(self, TooMany, ["planes", 8], lambda: eight + self.own)
        self.assertEqual(len(Scheme(*[self.own[0]] * 7) + self.own), 8)

    def test_turned(self):
        both = self.tree + self.own
        self.assertEqual((~both).planes, (~self.tree[0], ~self.own[0]))
        self.assertEqual(~~both, both)

    def test_planes_by_index(self):
        both = self.tree + self.own
        self.assertEqual([both[0], both[1]], [self.tree[0], self.own[0]])
        for value in odd_values() + [2, -2, (0,), "0", 10 ** 40]:
            assert_raises(self, NoPlane, [value], lambda: both[value])
        assert_raises(self, NoPlane, [slice(0, 1)], lambda: both[0:1])

    def test_equality(self):
        both = self.tree + self.own
        self.assertTrue(both == tree_scheme() + self.own)
        self.assertFalse(both != tree_scheme() + self.own)
        for other in (self.own + self.tree, self.tree, self.own, both + self.own, ~both):
            self.assertFalse(both == other)
        for value in odd_values() + [[self.tree[0]], (self.tree[0],), self.tree[0]]:
            self.assertFalse(both == value)

    def test_each_method_stands_in_the_class(self):
        for name in "__init__ answers __invert__ __eq__ __str__".split():
            self.assertIn(name, vars(Plane))
        for name in ("__init__ answers __add__ __invert__ __getitem__ __len__ __iter__ __eq__ __str__ read").split():
            self.assertIn(name, vars(Scheme))
        self.assertIsInstance(vars(Scheme)["read"], classmethod)


class Texts(unittest.TestCase):
    def assert_bad_text(self, text, word):
        assert_raises(self, BadText, [0, word], Scheme.read, text)

    def test_read_what_str_writes(self):
        self.assertEqual(str(tree_scheme() + tree_scheme()), str(tree_scheme()[0]) + " | " + str(tree_scheme()[0]))
        dice = random.Random(17)
        for trial in range(60):
            base = dice.choice((2, 3, 4))
            scheme = Scheme(*[some_plane(dice, base) for _ in range(dice.randint(1, 8))])
            made = Scheme.read(str(scheme))
            self.assertEqual(made, scheme)
            self.assertEqual(str(made), str(scheme))
        self.assertEqual(Scheme.read(text="2 2 e ; 2 2 f"), Scheme(Plane(Table.of(2, 2, "e"), Table.of(2, 2, "f"))))

    def test_no_strings(self):
        for value in odd_values():
            if not isinstance(value, str):
                self.assert_bad_text(value, 0)

    def test_spoiled_at_each_word(self):
        text = "2 2 e e:00*1>e e=1 ; 2 2 f f:01*-2>f g=1 | 2 2 h h:11*1>h ; 2 2 i i=5"
        words = text.split(" ")
        self.assertEqual(str(Scheme.read(text)), text)
        kinds = "bwsxepbwsxepbwsxpbwse"
        self.assertEqual(len(kinds), len(words))
        spoils = {"b": ["", "3", "1", "x", "02", ";", "|", "e"], "w": ["", "0", "1", "3", "02", "x", ";"],
                  "s": ["", "E", "1e", "ninesigns", ";", "|", "e=1"],
                  "x": ["", "e", "x:0*1>e", "x:02*1>e", "x:000*1>e", "x:00*0>e", "x:00*01>e", "x:00*+1>e", "x:00*1>E"],
                  "e": ["", "x", "x=0", "x=+1", "x=01", "X=1", "x=1 x=1"], "p": ["", ",", ";;", "||", "E=1"]}
        for at, kind in enumerate(kinds):
            for spoil in spoils[kind]:
                if at == 0 and spoil == "3":
                    continue
                spoiled = words[:at] + spoil.split(" ") + words[at + 1:]
                self.assert_bad_text(" ".join(spoiled), at + spoil.count(" "))
        for at, kind in enumerate(kinds):
            if kind == "p":
                other = {";": "|", "|": ";"}[words[at]]
                self.assert_bad_text(" ".join(words[:at] + [other] + words[at + 1:]), at)

    def test_the_first_base_is_that_of_all(self):
        self.assert_bad_text("3 2 e ; 2 2 f", 4)
        self.assert_bad_text("3 2 e ; 3 2 f | 4 2 g ; 3 2 h", 8)
        self.assert_bad_text("3 2 e ; 3 2 f | 3 2 g ; 2 2 h", 12)
        self.assert_bad_text("3 1 e ; 3 1 f", 1)
        self.assert_bad_text("3 2 e ; 3 1 f", 5)
        self.assert_bad_text("3 2 e e:33*1>e ; 3 2 f", 3)
        self.assertEqual(Scheme.read("3 2 e e:22*1>e ; 3 2 f").base, 3)

    def test_missing_words(self):
        words = "2 2 e e=1 ; 2 2 f f=1 | 2 2 h ; 2 2 i".split(" ")
        right = {9, len(words)}
        less = {8}
        for many in range(1, len(words) + 1):
            text = " ".join(words[:many])
            if many in right | less:
                self.assertIs(type(Scheme.read(text)), Scheme)
            else:
                self.assert_bad_text(text, many)
        self.assert_bad_text("", 0)
        self.assert_bad_text(" ", 0)
        self.assert_bad_text(" ".join(words) + " ", len(words))
        self.assert_bad_text(" ".join(words) + " ;", len(words))
        self.assert_bad_text(" ".join(words) + " |", len(words) + 1)
        self.assert_bad_text(" ".join(words) + " | ", len(words) + 1)

    def test_eight_and_nine_planes(self):
        for many in range(1, 9):
            self.assertEqual(len(Scheme.read(" | ".join(["2 2 e ; 2 2 e"] * many))), many)
        self.assert_bad_text(" | ".join(["2 2 e ; 2 2 e"] * 9), 8 * 8 - 1)
        self.assert_bad_text(" | ".join(["2 2 e ; 2 2 e"] * 8) + " |", 8 * 8 - 1)
        self.assert_bad_text(" | ".join(["2 2 e ; 2 2 e"] * 8) + " ;", 8 * 8 - 1)

    def test_too_many_comes_last(self):
        ends = [f"{name}=1" for name in sorted(f"n{at}" for at in range(41))]
        crowd = " ".join(["2 2 n0"] + ends)
        states = sorted(f"n{at}" for at in range(32))
        steps = [f"{state}:{letter}*1>{goal}" for state in states for letter in ("00", "01") for goal in states]
        long = " ".join(["2 2 n0"] + steps[:2001])
        both = long + " " + " ".join(ends)
        for text, what, most in ((crowd + " ; 2 2 e", "states", 40), ("2 2 e ; " + crowd, "states", 40),
                                 (long + " ; 2 2 e", "steps", 2000), (both + " ; 2 2 e", "states", 40),
                                 (long + " ; " + crowd, "steps", 2000), (crowd + " ; " + long, "states", 40),
                                 ("2 2 e ; 2 2 e | 2 2 e ; " + long, "steps", 2000)):
            assert_raises(self, TooMany, [what, most], Scheme.read, text)
            for behind in (" x", " | 2 2 E ; 2 2 e", " | 2 2 e ; 3 2 e", " | 2 2 e"):
                wrong = len(text.split(" ")) + {" x": 0, " | 2 2 E ; 2 2 e": 3, " | 2 2 e ; 3 2 e": 5, " | 2 2 e": 4}[behind]
                self.assert_bad_text(text + behind, wrong)
            self.assert_bad_text("2 2 E ; 2 2 e | " + text, 2)
        self.assert_bad_text("2 2 e x ; " + crowd, 3)
        exact = " ".join(["2 2 n0"] + ends[:40])
        self.assertEqual(len(Scheme.read(exact + " ; " + exact)[0].change), 40)


class RowsOfTables(unittest.TestCase):
    def test_by_all_ways(self):
        dice = random.Random(18)
        for trial in range(60):
            base = dice.choice((2, 3, 4))
            table = random_table(dice, base, 2)
            before = snapshot(table)
            for length in range(4 if base == 2 else 3):
                for word in words_of_length(base, length):
                    cells = {cell: slow_at(table, word, cell) for cell in words_of_length(base, length)}
                    self.assertTrue(same(row_of(table, word), {cell: cells[cell] for cell in cells if cells[cell]}))
            self.assertTrue(same(snapshot(table), before))

    def test_six_and_seven_digits(self):
        self.assertEqual(row_of(equal(2), "010101"), {"010101": 1})
        self.assertEqual(len(row_of(word="000000", table=at_most(4))), 4 ** 6)
        self.assertEqual(row_of(below(2), "1" * 6), {})
        assert_raises(self, BadWord, ["0" * 7], row_of, equal(2), "0" * 7)
        self.assertEqual(row_of(equal(3), ""), {"": 1})
        self.assertEqual(row_of(below(3), ""), {})

    def test_what_is_refused(self):
        for value in odd_values():
            if not isinstance(value, Table):
                assert_raises(self, BadTable, ["table"], row_of, value, "0")
                assert_raises(self, BadTable, ["table"], row_of, value, None)
            if value not in ("", "0"):
                assert_raises(self, BadWord, [value], row_of, equal(2), value)
        for width in (0, 1, 3):
            assert_raises(self, BadWidth, [width], row_of, Table.of(2, width, "e"), "0")
            assert_raises(self, BadWidth, [width], row_of, Table.of(2, width, "e"), None)
        assert_raises(self, BadWord, ["2"], row_of, equal(2), "2")
        assert_raises(self, BadWord, ["3"], row_of, equal(3), "3")
        assert_order(self, row_of, {"table": equal(2), "word": "0"},
                     [({"table": some_function}, BadTable, ["table"]), ({"word": 7}, BadWord, [7])])

    def test_in_time(self):
        begun = time.process_time()
        table = crowded(4, 2, 40, 2000, 40)
        row = row_of(table, "012301")
        self.assertEqual(row["302100"], table["012301", "302100"])
        self.assertEqual(row_of(chain(7, 2, 2), "000000"), {"000000": 1})
        self.assertLess(time.process_time() - begun, 20)


if __name__ == "__main__":
    unittest.main()
