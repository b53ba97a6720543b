"""Cutting schemes: whole ones with closed readings, torn ones with the least words, lost parts, and looks."""

import itertools
import random
import time
import unittest
from math import gcd

from helpers import (
    assert_order, assert_raises, at_most, crowded, equal, letters_of, odd_values, random_table, same, snapshot,
    some_function, tree_scheme, words_of_length)
from own_looks import cut_vectors, is_closed, least_odd, more_by_one, slow_lost, spoiled
from sumdigits import known
from sumdigits.cuts import Torn, Whole, cut, lost, lost_at
from sumdigits.errors import BadScheme, BadWord, TooMany, Unlike
from sumdigits.judged import Right
from sumdigits.look_cuts import shows_cut
from sumdigits.noughts import Nought, nought
from sumdigits.schemes import Plane, Scheme
from sumdigits.tables import Table
from sumdigits.words import words_of
from test_judged import all_loops, dead_end, ring_of, some_scheme, wide_table
from test_known import known_schemes


def own_cells(base, seed):
    """A drawn scheme the questions of which read cells up to their own alone, so that it is whole."""
    dice = random.Random(seed)
    question = random_table(dice, base, 2, 2) * ~at_most(base)
    return Scheme(Plane(random_table(dice, base, 2, 2), question))


class Lost(unittest.TestCase):
    def test_by_all_ways(self):
        dice = random.Random(60)
        for trial in range(50):
            base = dice.choice((2, 2, 3))
            scheme = some_scheme(dice, base)
            before = snapshot(scheme)
            table = lost(scheme)
            self.assertTrue(same([table.base, table.width], [base, 3]))
            for length in range(4 if base == 2 else 3):
                for words in itertools.product(words_of_length(base, length), repeat=3):
                    due = slow_lost(scheme, *words)
                    self.assertTrue(same(lost_at(scheme, *words), due))
                    self.assertTrue(same(table[words], due))
            self.assertTrue(same(snapshot(scheme), before))

    def test_known_schemes(self):
        for _, base, scheme, _, _ in known_schemes():
            table = lost(scheme)
            for length in range(4 if base == 2 else 3 if base == 3 else 2):
                for words in itertools.product(words_of_length(base, length), repeat=3):
                    due = slow_lost(scheme, *words)
                    self.assertTrue(same([lost_at(scheme, *words), table[words]], [due, due]))

    def test_planes_are_added(self):
        loops = Plane(all_loops(1), all_loops(1) * 3)
        less = Plane(all_loops(1), all_loops(1) * -3)
        self.assertEqual([lost_at(Scheme(*[loops] * 8), "0", "0", "1"), lost(Scheme(*[loops] * 8))["0", "0", "1"]],
                         [24, 24])
        self.assertEqual([lost_at(Scheme(loops, less), "0", "0", "1"), lost(Scheme(loops, less))["0", "0", "1"]],
                         [0, 0])

    def test_edges(self):
        scheme = Scheme(Plane(all_loops(1), all_loops(1)))
        for words, due in ((("", "", ""), 0), (("0", "0", "0"), 0), (("0", "0", "1"), 1), (("1", "0", "1"), 0),
                           (("0", "1", "1"), 0), (("01", "00", "10"), 1), (("10", "00", "01"), 0),
                           (("0" * 100, "0" * 100, "0" * 99 + "1"), 1), (("0" * 100,) * 3, 0),
                           (("1" * 99 + "0", "0" * 100, "1" * 100), 1), (("1" * 100, "0" * 100, "1" * 100), 0)):
            self.assertTrue(same(lost_at(scheme, *words), due))
            self.assertTrue(same(lost(scheme)[words], due))
        self.assertEqual(lost_at(cell="1", question="0", entry="0", scheme=scheme), 1)
        self.assertEqual(lost(scheme=scheme)["0", "0", "1"], 1)
        quads = Scheme(Plane(known.ones(4, 2), known.ones(4, 2)))
        self.assertEqual([lost_at(quads, "12", "20", "21"), lost(quads)["12", "20", "21"]], [1, 1])

    def test_at_most_40_states_of_small_planes(self):
        dice = random.Random(61)
        for trial in range(40):
            base = dice.choice((2, 3, 4))
            scheme = Scheme(Plane(random_table(dice, base, 2, 2), random_table(dice, base, 2, 2)))
            self.assertLessEqual(len(lost(scheme)), 40)
        full = Scheme(Plane(wide_table(2, 2, 1).with_end("q1", 1), wide_table(2, 2, 2).with_end("q1", 1)))
        self.assertLessEqual(len(lost(full)), 40)

    def test_too_many_states(self):
        big = Scheme(Plane(ring_of(7, 2, 1), ring_of(9, 2, 1)))
        assert_raises(self, TooMany, ["states", 40], lost, big)
        assert_raises(self, TooMany, ["states", 40], lost, tree_scheme() + big)

    def test_what_is_refused(self):
        tree = tree_scheme()
        for value in odd_values():
            if not isinstance(value, Scheme):
                assert_raises(self, BadScheme, ["scheme"], lost, value)
                assert_raises(self, BadScheme, ["scheme"], lost_at, value, "0", "0", "0")
                assert_raises(self, BadScheme, ["scheme"], lost_at, value, None, 5, [])
            if not isinstance(value, str) or value not in ("", "0"):
                assert_raises(self, BadWord, [value], lost_at, tree, value, None, 5)
                assert_raises(self, BadWord, [value], lost_at, tree, "01", value, [])
                assert_raises(self, BadWord, [value], lost_at, tree, "01", "1", value)
        for words in (("0", "", "0"), ("", "0", "0"), ("0", "0", ""), ("0", "1", "11"), ("00", "1", "11")):
            assert_raises(self, Unlike, ["length"], lost_at, tree, *words)
        for word in ("2", "0" * 101, "0 "):
            assert_raises(self, BadWord, [word], lost_at, tree, "0", "11", word)
        assert_order(self, lost_at, {"scheme": tree, "entry": "0", "question": "1", "cell": "1"},
                     [({"scheme": tree[0]}, BadScheme, ["scheme"]), ({"entry": True}, BadWord, [True]),
                      ({"question": some_function}, BadWord, [some_function]), ({"cell": ("1",)}, BadWord, [("1",)])])


class Cuts(unittest.TestCase):
    def assert_whole(self, scheme, paper):
        self.assertIs(type(paper), Whole)
        self.assertTrue(is_closed(cut_vectors(scheme), paper.readings, paper.factors))
        for divisor, numbers in paper.factors.values():
            self.assertEqual(gcd(divisor, *numbers), 1)

    def assert_torn(self, scheme, paper):
        """The words are the least ones, by going through all readings."""
        self.assertIs(type(paper), Torn)
        letters = letters_of(scheme.base, 3)
        least = least_odd(lambda reading: slow_lost(scheme, *words_of(reading, 3)), letters, len(paper.entry))
        entry, question, cell = words_of(least, 3)
        due = {"entry": entry, "question": question, "cell": cell, "worth": slow_lost(scheme, entry, question, cell)}
        self.assertTrue(same(vars(paper), due), (vars(paper), due))

    def test_drawn_schemes(self):
        dice = random.Random(62)
        kinds = {Whole: 0, Torn: 0}
        for trial in range(120):
            base = dice.choice((2, 2, 3))
            scheme = own_cells(base, trial) if trial % 3 == 0 else some_scheme(dice, base, share=0.6)
            before = snapshot(scheme)
            paper = cut(scheme)
            self.assertTrue(same(snapshot(scheme), before))
            kinds[type(paper)] += 1
            self.assertIs(bool(paper), bool(nought(lost(scheme))))
            if paper:
                self.assert_whole(scheme, paper)
            else:
                self.assert_torn(scheme, paper)
            self.assertIs(shows_cut(scheme, paper), True)
        self.assertGreater(min(kinds.values()), 20)

    def test_vectors_by_all_ways(self):
        """The vectors that the tests reckon letter by letter are those of [7]."""
        dice = random.Random(63)
        for trial in range(30):
            scheme = some_scheme(dice, 2)
            vectors = cut_vectors(scheme)
            for length in range(4):
                entry, question, cell = ["".join(dice.choice("01") for _ in range(length)) for _ in range(3)]
                due = {}
                for at, plane in enumerate(scheme):
                    if cell >= entry and cell >= question:
                        one = self.moved(plane.change, entry, cell)
                        other = self.moved(plane.question, question, cell)
                        due.update({(at, state, mate, cell > entry, cell > question): one[state] * other[mate]
                                    for state in one for mate in other if one[state] * other[mate]})
                letters = tuple("".join(digits) for digits in zip(entry, question, cell))
                self.assertEqual(vectors.behind(letters), due)

    def moved(self, table, one, other):
        found = {table.start: 1}
        for first, second in zip(one, other):
            ahead, found = found, {}
            for state, number in ahead.items():
                for goal, weight in table.steps.get((state, first + second), {}).items():
                    found[goal] = found.get(goal, 0) + number * weight
        return found

    def test_known_schemes(self):
        for name, base, scheme, _, _ in known_schemes():
            paper = cut(scheme)
            if name == "halves":
                self.assertEqual(paper, Torn("0", "0", "1", 1))
                self.assert_torn(scheme, paper)
            else:
                self.assert_whole(scheme, paper)
            self.assertIs(shows_cut(scheme, paper), True)
            for turned in (~scheme, scheme + ~scheme):
                paper = cut(turned)
                self.assertIs(shows_cut(turned, paper), True)
                if not paper and base < 4:
                    self.assert_torn(turned, paper)
        self.assertEqual(cut(scheme=Scheme(Plane(all_loops(1), at_most(2)))), Torn("0", "0", "1", 1))
        self.assertEqual(cut(Scheme(Plane(equal(2), all_loops(1)))).readings[0], ())

    def test_planes_that_make_one_another_good(self):
        one, other = Plane(all_loops(2), all_loops(3)), Plane(all_loops(-6), all_loops(1))
        self.assertEqual(cut(Scheme(one)), Torn("0", "0", "1", 6))
        self.assert_whole(Scheme(one, other), cut(Scheme(one, other)))
        eight = Scheme(*[one, other] * 4)
        self.assert_whole(eight, cut(eight))
        self.assertEqual(cut(Scheme(*[one, other] * 3, one)), Torn("0", "0", "1", 6))

    def test_tables_with_dead_ends_and_without_ends(self):
        zero = Table.of(2, 2, "e")
        for one, other in itertools.product((dead_end(), zero, ring_of(2)), repeat=2):
            scheme = Scheme(Plane(one, other))
            self.assert_whole(scheme, cut(scheme))
        self.assertEqual(cut(Scheme(Plane(zero, zero))).readings, ((),))

    def test_least_words(self):
        late = Table.of(2, 2, "a", ("a", "00", 1, "b"), ("b", "00", 1, "c"), ("c", "01", 5, "d"), d=1)
        self.assertEqual(cut(Scheme(Plane(late, late))), Torn("000", "000", "001", 25))
        ahead = Table.of(2, 2, "a", ("a", "01", 1, "b"), ("b", "11", 1, "c"), c=2)
        self.assertEqual(cut(Scheme(Plane(ahead, ahead))), Torn("01", "01", "11", 4))
        back = Table.of(2, 2, "a", ("a", "10", 1, "b"), ("b", "01", 1, "c"), c=2)
        self.assertTrue(cut(Scheme(Plane(back, back))))

    def test_400_and_404_numbers(self):
        scheme = Scheme(Plane(ring_of(10), ring_of(10)))
        paper = cut(scheme)
        self.assertEqual(len(paper.readings), 40)
        self.assert_whole(scheme, paper)
        self.assertIs(shows_cut(scheme, paper), True)
        readings, factors = more_by_one(paper.readings, paper.factors, letters_of(2, 3), 9)
        self.assertIs(shows_cut(scheme, Whole(readings, factors)), False)
        more = scheme + Scheme(Plane(equal(2), equal(2)))
        assert_raises(self, TooMany, ["numbers", 400], cut, more)
        self.assertIs(shows_cut(more, paper), is_closed(cut_vectors(more), paper.readings, paper.factors))
        assert_raises(self, TooMany, ["readings", 40], cut, Scheme(Plane(ring_of(9), ring_of(11))))
        # States that cannot be come to count, too.
        apart = Table.of(2, 2, "e", *[(f"x{at}", "00", 1, f"x{at}") for at in range(24)])
        self.assertTrue(cut(Scheme(*[Plane(equal(2), apart)] * 4)))
        assert_raises(self, TooMany, ["numbers", 400], cut,
                      Scheme(*[Plane(equal(2), apart)] * 4, Plane(equal(2), equal(2))))

    def test_columns(self):
        """By the cells below N a whole scheme answers as by all, a torn one otherwise in the store of its cell."""
        dice = random.Random(64)
        kinds = {True: 0, False: 0}
        schemes = [scheme for _, base, scheme, _, _ in known_schemes() if base == 2]
        schemes += [some_scheme(dice, 2, share=0.6) for _ in range(40)] + [own_cells(2, seed) for seed in range(10)]
        for scheme in schemes:
            paper = cut(scheme)
            kinds[bool(paper)] += 1
            if paper:
                for length in range(4):
                    for many in range(1, 2 ** length + 1):
                        column = [dice.randint(-9, 9) for _ in range(many)]
                        for question in range(many):
                            self.assertEqual(self.answer(scheme, length, column, question, many),
                                             self.answer(scheme, length, column, question, 2 ** length))
            else:
                length, number = len(paper.cell), int(paper.cell, 2)
                entry, question = int(paper.entry, 2), int(paper.question, 2)
                column = [int(at == entry) for at in range(number)]
                told = [self.answer(scheme, length, column, question, many) for many in (number, number + 1)]
                self.assertEqual(told[1] - told[0], paper.worth)
                self.assertLess(max(entry, question), number)
                whole = self.answer(scheme, length, column, question, 2 ** length)
                self.assertTrue(told[0] != whole or told[1] != whole)
        self.assertGreater(min(kinds.values()), 10)

    def answer(self, scheme, length, column, question, many):
        """The answer to a question by the cells below many."""
        words = words_of_length(2, length)
        total = 0
        for plane in scheme:
            for cell in words[:many]:
                kept = sum(plane.change[words[at], cell] * entry for at, entry in enumerate(column))
                total += kept * plane.question[words[question], cell]
        return total

    def test_what_is_refused(self):
        for value in odd_values():
            if not isinstance(value, Scheme):
                assert_raises(self, BadScheme, ["scheme"], cut, value)
                assert_raises(self, BadScheme, ["scheme"], shows_cut, value, None)
                assert_raises(self, BadScheme, ["scheme"], shows_cut, value, Whole(((),), {}))

    def test_400_numbers_in_time(self):
        begun = time.process_time()
        for base in (2, 3, 4):
            for classes in (2, 3):
                if base < 4 or classes == 2:
                    one = wide_table(classes, 10, 1, base)
                    scheme = Scheme(Plane(one, wide_table(classes, 10, 2, base)))
                    paper = cut(scheme)
                    self.assertEqual(len(paper.readings), 4 * classes ** 2 + 1)
                    self.assertIs(shows_cut(scheme, paper), True)
            rings = Scheme(Plane(ring_of(10, base), ring_of(10, base, 0)))
            self.assertIs(shows_cut(rings, cut(rings)), True)
            dense = Scheme(Plane(crowded(base, 2, 10, 1600, 0, 20), crowded(base, 2, 10, 1600, 3, 20)))
            assert_raises(self, TooMany, ["readings", 40], cut, dense)
        self.assertLess(time.process_time() - begun, 60)


class Looks(unittest.TestCase):
    def test_spoiled_papers(self):
        told = {True: 0, False: 0}
        schemes = [own_cells(2, seed) for seed in range(8)] + [own_cells(3, 3), tree_scheme(), known.slope_scheme(2)]
        for scheme in schemes:
            paper = cut(scheme)
            vectors = cut_vectors(scheme)
            for readings, factors in spoiled(paper.readings, paper.factors, vectors.letters):
                due = is_closed(vectors, readings, factors)
                told[due] += 1
                self.assertIs(shows_cut(scheme, Whole(readings, factors)), due)
            before = snapshot((paper.readings, paper.factors))
            self.assertIs(shows_cut(scheme, paper), True)
            self.assertTrue(same(snapshot((paper.readings, paper.factors)), before))
            self.assertIs(shows_cut(scheme, Right(paper.readings, paper.factors)), False)
            self.assertIs(shows_cut(scheme, Nought(paper.readings, paper.factors)), False)
        self.assertGreater(min(told.values()), 50)

    def test_a_whole_paper_of_a_torn_scheme(self):
        loops = Scheme(Plane(all_loops(1), all_loops(1)))
        silent = Scheme(Plane(all_loops(), all_loops()))
        paper = cut(silent)
        self.assertIs(shows_cut(silent, paper), True)
        self.assertIs(shows_cut(loops, paper), False)
        self.assertIs(shows_cut(Scheme(Plane(all_loops(1), all_loops())), paper), True)

    def test_torn_anywhere(self):
        dice = random.Random(65)
        told = {True: 0, False: 0}
        for trial in range(60):
            base = dice.choice((2, 3))
            scheme = some_scheme(dice, base, share=0.8)
            for length in range(4):
                words = ["".join(dice.choice("0123"[:base]) for _ in range(length)) for _ in range(2)]
                words.append(max("".join(dice.choice("0123"[:base]) for _ in range(length)) for _ in range(3)))
                worth = slow_lost(scheme, *words)
                told[worth != 0] += 1
                for value in (worth, worth + 1, -worth, 0, str(worth), None, bool(worth), (worth,)):
                    self.assertIs(shows_cut(scheme, Torn(*words, value)), worth != 0 and same(value, worth))
                entry, question, cell = words
                for other in ((entry + "0", question, cell), (entry, question + "0", cell), (entry, question, cell + "1"),
                              (entry, question, None), (list(entry), question, cell), (entry, (question,), cell),
                              ("4" + entry, "4" + question, "5" + cell)):
                    self.assertIs(shows_cut(scheme, Torn(*other, worth)), False)
        self.assertGreater(min(told.values()), 20)

    def test_words_of_100_digits(self):
        loops = Scheme(Plane(all_loops(1), all_loops(1)))
        for length, due in ((0, False), (1, True), (100, True), (101, False)):
            self.assertIs(shows_cut(loops, Torn("0" * length, "0" * length, "1" * length, 1)), due)

    def test_100_and_101_letters(self):
        scheme = Scheme(Plane(all_loops(), all_loops()))
        once = cut(scheme)
        many = len(once.readings)
        for length, due in ((1, True), (100, True), (101, False)):
            reading = ("110",) * length
            factors = {key: (divisor, numbers + (0,)) for key, (divisor, numbers) in once.factors.items()}
            factors.update({(many, letter): (1, (0,) * (many + 1)) for letter in letters_of(2, 3)})
            self.assertIs(shows_cut(scheme, Whole(once.readings + (reading,), factors)), due)
        self.assertIs(shows_cut(scheme, Whole((), {})), False)

    def test_any_values(self):
        tree, loops = tree_scheme(), Scheme(Plane(all_loops(1), all_loops(1)))
        for value in odd_values():
            self.assertIs(shows_cut(tree, value), False)
            for other in odd_values():
                self.assertIs(shows_cut(tree, Whole(value, other)), False)
                self.assertIs(shows_cut(loops, Torn(value, other, "1", 1)), (value, other) == ("0", "0"))
                self.assertIs(shows_cut(loops, Torn("0", "0", value, other)), False)
                self.assertIs(shows_cut(loops, Torn("0", "0", "1", value)), False)
        self.assertIs(shows_cut(value=Torn("0", "0", "1", 1), scheme=loops), True)

    def test_papers_of_40_readings_in_time(self):
        begun = time.process_time()
        dice = random.Random(66)
        scheme = Scheme(Plane(wide_table(3, 10, 4, 3), wide_table(3, 10, 5, 3)))
        readings = ((),) + tuple(tuple(dice.choice(letters_of(3, 3)) for _ in range(dice.choice((5, 50))))
                                 for _ in range(39))
        nothing = {(at, letter): (1, (0,) * 40) for at in range(40) for letter in letters_of(3, 3)}
        self.assertIs(shows_cut(scheme, Whole(readings, nothing)), False)
        self.assertLess(time.process_time() - begun, 30)


if __name__ == "__main__":
    unittest.main()
