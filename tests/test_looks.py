"""Looks at the papers of nought and alike: True just where readings multiplied out anew say so."""

import itertools
import random
import time
import unittest

from helpers import (
    assert_order, assert_raises, at_most, below, chain, crowded, equal, letters_of, odd_values, random_table, ring,
    same, size_table, slow_value, snapshot, some_function, tree_scheme)
from own_looks import is_closed, more_by_one, spoiled, table_vectors
from sumdigits.alike import Alike, Apart, alike
from sumdigits.errors import BadTable, TooMany, Unlike
from sumdigits.look_alike import shows_alike
from sumdigits.look_noughts import shows_nought
from sumdigits.noughts import Nought, Somewhere, nought
from sumdigits.tables import Table
from sumdigits.words import reading as reading_of

PRIME = 2147483647


def silent(table):
    """The table without ends."""
    for state in table.states:
        table = table.with_end(state, 0)
    return table


def loop(base=2, width=1, weight=1, end=0):
    """One state, to which each letter leads back."""
    return Table.of(base, width, "e", *[("e", letter, weight, "e") for letter in letters_of(base, width)], e=end)


def looped(reading, letters, numbers=(1, 0)):
    """A Nought of the empty reading and this one, as loop(end=0) has it: all vectors are alike."""
    return Nought(((), reading), {(at, letter): (1, numbers) for at in range(2) for letter in letters})


class Looks(unittest.TestCase):
    def assert_look(self, look, paper, due):
        """The look says what is due, and changes nothing."""
        before = snapshot(vars(paper))
        self.assertIs(look(paper), due, vars(paper))
        self.assertTrue(same(snapshot(vars(paper)), before))


class Noughts(Looks):
    def look_at(self, table):
        return lambda paper: shows_nought(table, paper)

    def test_what_nought_tells(self):
        dice = random.Random(30)
        kinds = {Nought: 0, Somewhere: 0}
        for trial in range(120):
            base, width = dice.choice((2, 3)), dice.choice((0, 1, 1, 2))
            table = random_table(dice, base, width, 3, share=0.3)
            if trial % 2:
                other = random_table(dice, base, width, 2, share=0.5)
                table = dice.choice((table + other - table - other, table * 0, silent(table), table - table))
            paper = nought(table)
            kinds[type(paper)] += 1
            before = snapshot(table)
            self.assert_look(self.look_at(table), paper, True)
            if isinstance(paper, Nought):
                self.check_spoiled(table, paper, dice)
            self.assertTrue(same(snapshot(table), before))
        self.assertGreater(min(kinds.values()), 30)

    def check_spoiled(self, table, paper, dice):
        vectors = table_vectors([table], [1])
        self.assertTrue(is_closed(vectors, paper.readings, paper.factors))
        told = {True: 0, False: 0}
        for readings, factors in spoiled(paper.readings, paper.factors, vectors.letters):
            due = is_closed(vectors, readings, factors)
            told[due] += 1
            self.assert_look(self.look_at(table), Nought(readings, factors), due)
            self.assert_look(self.look_at(table), Alike(readings, factors), False)
        self.assertGreater(told[True], 2)
        self.assertGreater(told[False], 30)
        odd = table.with_end(table.start, table.ends.get(table.start, 0) + 1)
        self.assert_look(self.look_at(odd), paper, False)

    def test_with_ends_that_are_not_0(self):
        table = loop()
        paper = nought(table)
        self.assert_look(self.look_at(table), paper, True)
        self.assert_look(self.look_at(table.with_end("e", 1)), paper, False)
        later = Table.of(2, 1, "e", ("e", "0", 1, "f"), f=1)
        closed = {(0, "0"): (1, (0, 1)), (0, "1"): (1, (0, 0)), (1, "0"): (1, (0, 0)), (1, "1"): (1, (0, 0))}
        self.assert_look(self.look_at(later), Nought(((), ("0",)), closed), False)
        self.assert_look(self.look_at(later.with_end("f", 0)), Nought(((), ("0",)), closed), True)

    def test_width_0(self):
        table = Table.of(3, 0, "e", ("e", "", -2, "e"))
        for factors, due in (({(0, ""): (1, (-2,))}, True), ({(0, ""): (3, (-6,))}, True), ({(0, ""): (1, (2,))}, False),
                             ({(0, "0"): (1, (-2,))}, False), ({}, False)):
            self.assert_look(self.look_at(table), Nought(((),), factors), due)
        self.assert_look(self.look_at(chain(40, 2, 0)), nought(chain(40, 2, 0)), True)
        ends = table.with_end("e", 5)
        for length in range(101):
            self.assert_look(self.look_at(ends), Somewhere(length, 5 * (-2) ** length), True)
        for words in (-1, 101, True, False, "", (), ("",), None, "0", (0,), [0]):
            self.assert_look(self.look_at(ends), Somewhere(words, 5), False)
            self.assert_look(self.look_at(ends), Somewhere(words, -10), False)

    def test_somewhere(self):
        dice = random.Random(31)
        for trial in range(60):
            base, width = dice.choice((2, 3)), dice.choice((1, 2, 3))
            table = random_table(dice, base, width, 3)
            for length in range(4):
                words = tuple("".join(dice.choice("0123"[:base]) for _ in range(length)) for _ in range(width))
                value = slow_value(table, reading_of(*words))
                for told in (value, value + 1, -value, 0, str(value), None, True, bool(value), (value,)):
                    due = value != 0 and type(told) is int and told == value
                    self.assert_look(self.look_at(table), Somewhere(words, told), due)
                for other in (list(words), words[:-1], words + words[:1], words[0], (words,), words[:-1] + (None,),
                              ("0" * (length + 1),) + words[1:] if width > 1 else (), ("4" * length + "4",) * width):
                    self.assert_look(self.look_at(table), Somewhere(other, value), False)

    def test_words_of_100_digits(self):
        table = size_table()
        self.assert_look(self.look_at(table), Somewhere(("1" * 100,), 2 ** 100 - 1), True)
        self.assert_look(self.look_at(table), Somewhere(("1" * 100,), 2 ** 100), False)
        self.assert_look(self.look_at(loop(2, 1, 1, 1)), Somewhere(("1" * 100,), 1), True)
        self.assert_look(self.look_at(loop(2, 1, 1, 1)), Somewhere(("1" * 101,), 1), False)
        self.assert_look(self.look_at(equal(4)), Somewhere(("0123" * 25,) * 2, 1), True)
        self.assert_look(self.look_at(equal(3)), Somewhere(("0123" * 25,) * 2, 1), False)
        self.assert_look(self.look_at(below(2)), Somewhere(("0", "1"), 1), True)
        self.assert_look(self.look_at(below(2)), Somewhere(("1", "0"), 1), False)

    def test_not_the_least_words(self):
        self.assert_look(self.look_at(equal(2)), Somewhere(("01", "01"), 1), True)
        self.assert_look(self.look_at(equal(2)), Somewhere(("", ""), 1), True)
        self.assert_look(self.look_at(equal(2)), Somewhere(("01", "00"), 0), False)

    def test_40_and_41_readings(self):
        for width in (0, 1, 2):
            table = silent(ring(40, 2, width))
            paper = nought(table)
            self.assertEqual(len(paper.readings), 40)
            self.assert_look(self.look_at(table), paper, True)
            readings, factors = more_by_one(paper.readings, paper.factors, letters_of(2, width), 0)
            self.assert_look(self.look_at(table), Nought(readings, factors), False)
            small = silent(ring(39, 2, width))
            paper = nought(small)
            readings, factors = more_by_one(paper.readings, paper.factors, letters_of(2, width), 5)
            self.assert_look(self.look_at(small), Nought(readings, factors), True)
            readings, factors = more_by_one(readings, factors, letters_of(2, width), 5)
            self.assertEqual(len(readings), 41)
            self.assert_look(self.look_at(small), Nought(readings, factors), False)

    def test_100_and_101_letters(self):
        for width in (0, 1, 2, 3):
            letters = letters_of(2, width)
            for length, due in ((0, True), (1, True), (100, True), (101, False), (300, False)):
                self.assert_look(self.look_at(loop(2, width)), looped((letters[-1],) * length, letters), due)
        fading = chain(40, 2, 1).with_end("c39", 0)
        nothing = {(at, letter): (1, (0, 0)) for at in (0, 1) for letter in "01"}
        self.assert_look(self.look_at(fading), Nought(((), ("1",) * 100), nothing), False)
        self.assert_look(self.look_at(silent(chain(1))), Nought(((), ("1",) * 100), nothing), True)

    def test_a_reading_twice(self):
        table = loop()
        twice = {(at, letter): (1, (at, 1 - at)) for at in (0, 1) for letter in "01"}
        self.assert_look(self.look_at(table), Nought(((), ()), twice), True)
        self.assert_look(self.look_at(table), Nought(((), ()), {**twice, (0, "0"): (2, (5, -3))}), True)
        self.assert_look(self.look_at(table), Nought(((), ()), {**twice, (0, "0"): (2, (5, -2))}), False)

    def test_no_readings_and_others_first(self):
        table = loop()
        self.assert_look(self.look_at(table), Nought((), {}), False)
        self.assert_look(self.look_at(silent(chain(1))), Nought((), {}), False)
        whole = {(0, "0"): (1, (1,)), (0, "1"): (1, (1,))}
        self.assert_look(self.look_at(table), Nought((("0",),), whole), False)
        self.assert_look(self.look_at(table), Nought(((),), whole), True)
        other = {(at, letter): (1, (1, 0)) for at in (0, 1) for letter in "01"}
        self.assert_look(self.look_at(table), Nought((("0",), ()), other), False)

    def test_letters_of_another_kind(self):
        for letter in ("2", "00", "", 0, None, ("0",), ["0"], True):
            self.assert_look(self.look_at(loop()), looped((letter,), "01"), False)
        self.assert_look(self.look_at(loop(3)), looped(("2",), "012"), True)
        self.assert_look(self.look_at(loop(3)), looped(("2",), "01"), False)
        self.assert_look(self.look_at(loop(2)), looped(("1",), "012"), False)

    def test_great_numbers(self):
        table = loop(2, 1, PRIME)
        for divisor, numbers in ((1, (PRIME, 0)), (10 ** 59, (10 ** 59 * PRIME, 0)), (PRIME, (0, PRIME))):
            paper = looped(("0",), "01", (PRIME, 0))
            paper.factors[0, "1"] = (divisor, numbers)
            self.assert_look(self.look_at(table), paper, is_closed(table_vectors([table], [1]), paper.readings,
                                                                   paper.factors))
        mixed = Table.of(2, 1, "e", ("e", "0", 2, "f"), ("e", "1", 3, "f"), ("f", "0", PRIME ** 18, "f"))
        self.assert_look(self.look_at(mixed), nought(mixed), True)

    def test_any_values(self):
        for table in (loop(), loop(2, 0), size_table()):
            for value in odd_values():
                if not isinstance(value, (Nought, Somewhere)):
                    self.assertIs(shows_nought(table, value), False)
                for other in odd_values():
                    self.assert_look(self.look_at(table), Nought(value, other), False)
                    if not (table.width == 0 and type(value) is int):
                        self.assert_look(self.look_at(table), Somewhere(value, other), False)
                self.assert_look(self.look_at(table), Nought((value,), {}), False)
                self.assert_look(self.look_at(table), Nought(((), value), {}), False)
                self.assert_look(self.look_at(loop()), Nought(((),), {(0, "0"): value, (0, "1"): (1, (1,))}), False)
                self.assert_look(self.look_at(loop()), Nought(((),), {(0, "0"): (value, (1,)), (0, "1"): (1, (1,))}),
                                 False)
                if value != -1:
                    self.assert_look(self.look_at(loop()),
                                     Nought(((),), {(0, "0"): (1, (value,)), (0, "1"): (1, (1,))}), False)

    def test_what_is_refused(self):
        for value in odd_values():
            if not isinstance(value, Table):
                assert_raises(self, BadTable, ["table"], shows_nought, value, Nought(((),), {}))
                assert_raises(self, BadTable, ["table"], shows_nought, value, None)
        self.assertIs(shows_nought(value=Nought((), {}), table=loop()), False)

    def test_in_time(self):
        begun = time.process_time()
        for table in (silent(ring(40, 2, 1)), silent(ring(40, 4, 3)), crowded(2, 1, 40, 2000, 0, 1),
                      crowded(2, 0, 40, 1600, 0, 1), crowded(4, 3, 40, 2000, 0, 1)):
            paper = nought(table)
            self.assertEqual(len(paper.readings), 40)
            self.assertIs(shows_nought(table, paper), True)
            key = max(paper.factors)
            divisor, numbers = paper.factors[key]
            other = {**paper.factors, key: (divisor, numbers[:-1] + (numbers[-1] + 1,))}
            self.assertIs(shows_nought(table, Nought(paper.readings, other)), False)
        dice = random.Random(32)
        table = crowded(2, 1, 40, 2000, 0, 1)
        readings = ((),) + tuple(tuple(dice.choice("01") for _ in range(100)) for _ in range(39))
        nothing = {(at, letter): (1, (0,) * 40) for at in range(40) for letter in "01"}
        self.assertIs(shows_nought(table, Nought(readings, nothing)), False)
        self.assertLess(time.process_time() - begun, 20)


class Alikes(Looks):
    def look_at(self, one, other):
        return lambda paper: shows_alike(one, other, paper)

    def test_what_alike_tells(self):
        dice = random.Random(33)
        kinds = {Alike: 0, Apart: 0}
        for trial in range(120):
            base, width = dice.choice((2, 3)), dice.choice((0, 1, 1, 2))
            one = random_table(dice, base, width, 3, share=0.3)
            other = random_table(dice, base, width, 2, share=0.3)
            if trial % 2:
                other = dice.choice((one, one.renamed(one.states[-1], "new"), one + other - other, -one * -1))
            paper = alike(one, other)
            kinds[type(paper)] += 1
            before = snapshot((one, other))
            self.assert_look(self.look_at(one, other), paper, True)
            if isinstance(paper, Alike):
                self.check_spoiled(one, other, paper)
            else:
                self.check_apart(one, other, paper)
            self.assertTrue(same(snapshot((one, other)), before))
        self.assertGreater(min(kinds.values()), 30)

    def check_spoiled(self, one, other, paper):
        vectors = table_vectors([one, other], [1, -1])
        self.assertTrue(is_closed(vectors, paper.readings, paper.factors))
        told = {True: 0, False: 0}
        for readings, factors in spoiled(paper.readings, paper.factors, vectors.letters):
            due = is_closed(vectors, readings, factors)
            told[due] += 1
            self.assert_look(self.look_at(one, other), Alike(readings, factors), due)
            self.assert_look(self.look_at(one, other), Nought(readings, factors), False)
        self.assertGreater(told[True], 2)
        self.assertGreater(told[False], 30)
        odd = other.with_end(other.start, other.ends.get(other.start, 0) + 1)
        self.assert_look(self.look_at(one, odd), paper, False)

    def check_apart(self, one, other, paper):
        for first, second in ((paper.one, paper.other), (paper.other, paper.one), (paper.one, paper.one),
                              (paper.one + 1, paper.other), (paper.one, paper.other + 1), (str(paper.one), paper.other),
                              (paper.one, None), (bool(paper.one), paper.other), (paper.one, bool(paper.other))):
            due = type(first) is int and type(second) is int and (first, second) == (paper.one, paper.other)
            self.assert_look(self.look_at(one, other), Apart(paper.words, first, second), due)
        self.assert_look(self.look_at(one, other), Somewhere(paper.words, paper.one), False)
        if one.width:
            self.assert_look(self.look_at(one, other), Apart(list(paper.words), paper.one, paper.other), False)

    def test_apart_anywhere(self):
        one, other = below(2), at_most(2)
        self.assert_look(self.look_at(one, other), Apart(("1", "1"), 0, 1), True)
        self.assert_look(self.look_at(one, other), Apart(("01" * 50, "01" * 50), 0, 1), True)
        self.assert_look(self.look_at(one, other), Apart(("01" * 51, "01" * 51), 0, 1), False)
        self.assert_look(self.look_at(one, other), Apart(("0", "1"), 1, 1), False)
        self.assert_look(self.look_at(one, other), Apart(("0", "1"), 1, 0), False)
        self.assert_look(self.look_at(one, other), Apart(("0", "11"), 0, 1), False)
        self.assert_look(self.look_at(one, other), Apart(("1",), 0, 1), False)

    def test_width_0(self):
        one, other = chain(5, 2, 0), loop(2, 0, 1, 1)
        for length in range(-1, 103):
            first = int(length == 4)
            self.assert_look(self.look_at(one, other), Apart(length, first, 1), first == 0 and 0 <= length <= 100)
        self.assert_look(self.look_at(other, other), alike(other, other), True)
        self.assert_look(self.look_at(one, other), Apart(True, 0, 1), False)
        self.assert_look(self.look_at(one, other), Apart((), 0, 1), False)

    def test_both_vectors_play_a_part(self):
        one = loop()
        other = Table.of(2, 1, "e", ("e", "0", 2, "e"), ("e", "1", 2, "e"))
        whole = {(0, "0"): (1, (1,)), (0, "1"): (1, (1,))}
        self.assert_look(self.look_at(one, one), Alike(((),), whole), True)
        self.assert_look(self.look_at(one, other), Alike(((),), whole), False)
        self.assert_look(self.look_at(other, one), Alike(((),), whole), False)
        self.assert_look(self.look_at(one, other), alike(one, other), True)

    def test_ends_are_taken_away_from_one_another(self):
        one, other = loop(2, 1, 1, 1), loop(2, 1, 1, 1)
        whole = {(0, "0"): (1, (1,)), (0, "1"): (1, (1,))}
        self.assert_look(self.look_at(one, other), Alike(((),), whole), True)
        self.assert_look(self.look_at(one, loop(2, 1, 1, -1)), Alike(((),), whole), False)
        self.assert_look(self.look_at(one, loop(2, 1, 1, 0)), Alike(((),), whole), False)

    def test_40_and_41_readings(self):
        one, other = ring(20, 2, 1), ring(20, 2, 1).renamed("r3", "a")
        paper = alike(one, other)
        self.assertEqual(len(paper.readings), 20)
        full = ring(40, 2, 1)
        paper = alike(full, full)
        self.assertEqual(len(paper.readings), 40)
        self.assert_look(self.look_at(full, full), paper, True)
        readings, factors = more_by_one(paper.readings, paper.factors, "01", 7)
        self.assert_look(self.look_at(full, full), Alike(readings, factors), False)
        table = loop()
        for length, due in ((100, True), (101, False)):
            paper = looped(("1",) * length, "01")
            self.assert_look(self.look_at(table, table), Alike(paper.readings, paper.factors), due)
        self.assert_look(self.look_at(table, table), Alike((), {}), False)

    def test_what_alike_cannot_tell(self):
        one, other = silent(ring(40, 2, 0)), silent(ring(39, 2, 0))
        assert_raises(self, TooMany, ["readings", 40], alike, one, other)
        readings = tuple(("",) * length for length in range(40))
        factors = {(at, ""): (1, tuple(int(place == at + 1) for place in range(40))) for at in range(40)}
        self.assert_look(self.look_at(one, other), Alike(readings, factors), False)

    def test_any_values(self):
        table = loop()
        for value, other in itertools.product(odd_values(), repeat=2):
            self.assert_look(self.look_at(table, table), Alike(value, other), False)
            self.assert_look(self.look_at(table, table), Apart(("",), value, other), False)
            self.assert_look(self.look_at(table, below(2).summed(0)), Apart(value, other, 0), False)
        for value in odd_values():
            self.assertIs(shows_alike(table, table, value), False)

    def test_what_is_refused(self):
        one = size_table()
        paper = Alike(((),), {})
        for value in odd_values():
            if not isinstance(value, Table):
                assert_raises(self, BadTable, ["one"], shows_alike, value, one, paper)
                assert_raises(self, BadTable, ["one"], shows_alike, value, value, None)
                assert_raises(self, BadTable, ["other"], shows_alike, one, value, paper)
        assert_raises(self, Unlike, ["base"], shows_alike, one, Table.of(3, 1, "e"), paper)
        assert_raises(self, Unlike, ["base"], shows_alike, one, equal(3), None)
        assert_raises(self, Unlike, ["width"], shows_alike, one, equal(2), paper)
        assert_order(self, shows_alike, {"one": one, "other": one, "value": None},
                     [({"one": some_function}, BadTable, ["one"]), ({"other": tree_scheme()}, BadTable, ["other"])])
        self.assertIs(shows_alike(value=alike(one, one), other=one, one=one), True)

    def test_in_time(self):
        begun = time.process_time()
        for base, width, steps in ((2, 1, 2000), (4, 3, 2000)):
            table = crowded(base, width, 40, steps, 3, 1)
            other = table.renamed("q7", "a")
            paper = alike(table, other)
            self.assertIs(shows_alike(table, other, paper), True)
            self.assertIs(shows_alike(table, other.with_end("q2", 77), paper), False)
        self.assertLess(time.process_time() - begun, 20)


if __name__ == "__main__":
    unittest.main()
