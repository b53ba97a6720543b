"""Judging schemes: right ones with closed readings, wrong ones with the least words, and looks at both."""

import itertools
import random
import time
import unittest
from math import gcd

from helpers import (
    assert_order, assert_raises, at_most, below, crowded, equal, letters_of, odd_values, random_table, same,
    size_table, snapshot, some_function, tree_scheme, words_of_length)
from own_looks import (
    is_closed, judge_vectors, least_odd, more_by_one, slow_told, spoiled, without_zeros)
from sumdigits import known
from sumdigits.alike import Alike, alike
from sumdigits.errors import BadScheme, BadTable, BadWidth, BadWord, TooMany, Unlike
from sumdigits.judged import Right, Wrong, judge, told_at
from sumdigits.look_judged import shows_judged
from sumdigits.noughts import Nought
from sumdigits.schemes import Plane, Scheme
from sumdigits.tables import Table
from sumdigits.words import words_of
from test_known import known_schemes


def ring_of(many, base=2, end=0):
    """A table of the width 2 each of whose states leads to the next one by all letters."""
    names = [f"r{at}" for at in range(many)]
    steps = {(names[at], letter): {names[(at + 1) % many]: 1} for at in range(many) for letter in letters_of(base, 2)}
    return Table(base, 2, names[0], steps, {names[-1]: end})


def all_loops(end=0):
    """One state, to which all letters lead back."""
    return Table.of(2, 2, "e", *[("e", letter, 1, "e") for letter in letters_of(2, 2)], e=end)


def dead_end(base=2):
    """A table whose ways from the start lead to a state without an end and without steps."""
    return Table.of(base, 2, "e", ("e", "00", 1, "dead"), ("e", "11", 2, "e"), ("far", "01", 1, "e"), far=4)


def some_scheme(dice, base, most=2, share=0.4):
    return Scheme(*[Plane(random_table(dice, base, 2, 2, share=share), random_table(dice, base, 2, 2, share=share))
                    for _ in range(dice.randint(1, most))])


def wide_table(classes, many, seed, base=2):
    """A table without ends and with all steps, in which states of a class lead alike: its vectors are dense."""
    dice = random.Random(seed)
    names = [f"q{at}" for at in range(many)]
    core = {(one, letter, other): dice.choice((1, 2, 3, -1)) for one in range(classes)
            for letter in letters_of(base, 2) for other in range(classes)}
    shares = [dice.randint(1, 9) for _ in names]
    steps = {(name, letter): {names[goal]: core[at % classes, letter, goal % classes] * shares[goal]
                              for goal in range(many)} for at, name in enumerate(names) for letter in letters_of(base, 2)}
    return Table(base, 2, names[0], steps, {})


class Told(unittest.TestCase):
    def test_by_all_cells(self):
        dice = random.Random(50)
        for trial in range(60):
            base = dice.choice((2, 2, 3, 4))
            scheme = some_scheme(dice, base)
            before = snapshot(scheme)
            for length in range(4 if base == 2 else 3 if base == 3 else 2):
                for entry, question in itertools.product(words_of_length(base, length), repeat=2):
                    self.assertTrue(same(told_at(scheme, entry, question), slow_told(scheme, entry, question)))
            self.assertTrue(same(snapshot(scheme), before))

    def test_as_the_answer_table_tells(self):
        for _, base, scheme, due, _ in known_schemes():
            answers = scheme.answers()
            for length in range(4 if base == 2 else 3):
                for entry, question in itertools.product(words_of_length(base, length), repeat=2):
                    told = told_at(scheme, entry, question)
                    self.assertTrue(same(told, due(base, entry, question)))
                    self.assertEqual(told, answers[entry, question])

    def test_words_of_100_digits(self):
        for _, base, scheme, due, _ in known_schemes():
            last = "0123"[base - 1]
            words = ["0" * 100, last * 100, "0" * 99 + "1", "1" + "0" * 99, "01" * 50]
            for entry, question in itertools.product(words, repeat=2):
                self.assertEqual(told_at(scheme, entry, question), due(base, entry, question))

    def test_one_plane_and_eight(self):
        plane = tree_scheme()[0]
        for many in range(1, 9):
            scheme = Scheme(*[plane] * many)
            self.assertEqual([told_at(scheme, "01", "10"), told_at(scheme, "", "")], [many, 0])
        up = Plane(equal(2) * 5, equal(2))
        self.assertEqual(told_at(Scheme(up, Plane(equal(2) * -5, equal(2))), "01", "01"), 0)
        self.assertEqual(told_at(question="01", entry="00", scheme=tree_scheme()), 1)

    def test_what_is_refused(self):
        tree = tree_scheme()
        for value in odd_values():
            if not isinstance(value, Scheme):
                assert_raises(self, BadScheme, ["scheme"], told_at, value, "0", "1")
                assert_raises(self, BadScheme, ["scheme"], told_at, value, None, 5)
            if not isinstance(value, str) or value not in ("", "0"):
                assert_raises(self, BadWord, [value], told_at, tree, value, None)
                assert_raises(self, BadWord, [value], told_at, tree, "01", value)
        for word in ("2", "0" * 101, "-", " 0", "0\n"):
            assert_raises(self, BadWord, [word], told_at, tree, word, "0")
        assert_raises(self, Unlike, ["length"], told_at, tree, "0", "")
        assert_raises(self, Unlike, ["length"], told_at, tree, "01", "011")
        assert_raises(self, BadWord, ["012"], told_at, tree, "0", "012")
        assert_order(self, told_at, {"scheme": tree, "entry": "0", "question": "1"},
                     [({"scheme": below(2)}, BadScheme, ["scheme"]), ({"entry": 7}, BadWord, [7]),
                      ({"question": some_function}, BadWord, [some_function])])


class Judged(unittest.TestCase):
    def assert_right(self, scheme, wanted, paper):
        """The readings are closed with just these factors, which are reduced."""
        self.assertIs(type(paper), Right)
        self.assertTrue(is_closed(judge_vectors(scheme, wanted), paper.readings, paper.factors))
        for divisor, numbers in paper.factors.values():
            self.assertEqual(gcd(divisor, *numbers), 1)

    def assert_wrong(self, scheme, wanted, paper):
        """The words are the least ones, by going through all readings."""
        self.assertIs(type(paper), Wrong)

        def parting(reading):
            entry, question = words_of(reading, 2)
            return slow_told(scheme, entry, question) - wanted[entry, question]

        least = least_odd(parting, letters_of(scheme.base, 2), len(paper.entry))
        entry, question = words_of(least, 2)
        due = {"entry": entry, "question": question, "told": slow_told(scheme, entry, question),
               "due": wanted[entry, question]}
        self.assertTrue(same(vars(paper), due), (vars(paper), due))

    def test_drawn_schemes(self):
        dice = random.Random(51)
        kinds = {Right: 0, Wrong: 0}
        for trial in range(140):
            base = dice.choice((2, 2, 3))
            scheme = some_scheme(dice, base)
            wanted = dice.choice((scheme.answers(), scheme.answers(), random_table(dice, base, 2, 2),
                                  scheme.answers() + equal(base) - equal(base)))
            if trial % 5 == 0:
                wanted = wanted + random_table(dice, base, 2, 1, (-1, 1), 0.2) * dice.choice((0, 1))
            before = snapshot((scheme, wanted))
            paper = judge(scheme, wanted)
            self.assertTrue(same(snapshot((scheme, wanted)), before))
            kinds[type(paper)] += 1
            self.assertIs(bool(paper), bool(alike(scheme.answers(), wanted)))
            if paper:
                self.assert_right(scheme, wanted, paper)
            else:
                self.assert_wrong(scheme, wanted, paper)
            self.assertIs(shows_judged(scheme, wanted, paper), True)
        self.assertGreater(min(kinds.values()), 30)

    def test_vectors_by_all_cells(self):
        """The vectors that the tests reckon letter by letter are those of [7]."""
        dice = random.Random(52)
        for trial in range(20):
            scheme, wanted = some_scheme(dice, 2), random_table(dice, 2, 2, 2)
            vectors = judge_vectors(scheme, wanted)
            for length in range(4):
                reading = tuple(dice.choice(vectors.letters) for _ in range(length))
                entry, question = words_of(reading, 2)
                due = {}
                for at, plane in enumerate(scheme):
                    for cell in words_of_length(2, length):
                        one = self.moved(plane.change, entry, cell)
                        other = self.moved(plane.question, question, cell)
                        for state, mate in itertools.product(one, other):
                            key = (at, state, mate)
                            due[key] = due.get(key, 0) + one[state] * other[mate]
                for state, number in self.moved(wanted, entry, question).items():
                    due["wanted", state] = number
                self.assertEqual(vectors.behind(reading), without_zeros(due))

    def moved(self, table, one, other):
        found = {table.start: 1}
        for letter in zip(one, other):
            ahead, found = found, {}
            for state, number in ahead.items():
                for goal, weight in table.steps.get((state, "".join(letter)), {}).items():
                    found[goal] = found.get(goal, 0) + number * weight
        return found

    def test_known_schemes(self):
        """Each known scheme is right for what it answers; for the others the least words are those that come first."""
        tables = {base: [known.equal(base), known.below(base), known.at_most(base), known.within(base),
                         known.next_one(base), known.ones(base, 2), known.power(base, 2), known.power(base, -3)]
                  for base in (2, 3, 4)}
        right = 0
        for name, base, scheme, due, _ in known_schemes():
            for wanted in tables[base] + [scheme.answers()]:
                paper = judge(scheme, wanted)
                least = None
                for length in range(4 if base == 2 else 3):
                    for reading in itertools.product(letters_of(base, 2), repeat=length):
                        entry, question = words_of(reading, 2)
                        if least is None and wanted[entry, question] != due(base, entry, question):
                            least = Wrong(entry, question, due(base, entry, question), wanted[entry, question])
                if least is None:
                    right += 1
                    self.assert_right(scheme, wanted, paper)
                else:
                    self.assertTrue(same(vars(paper), vars(least)), name)
                self.assertIs(shows_judged(scheme, wanted, paper), True)
        self.assertEqual(right, 16 + 13)

    def test_known_ones_by_hand(self):
        for base in (2, 3, 4):
            self.assertEqual(judge(known.tree_scheme(base), at_most(base)), Wrong("", "", 0, 1))
            self.assertEqual(judge(known.plain_scheme(base), below(base)), Wrong("", "", 1, 0))
            self.assertEqual(judge(known.plain_scheme(base), at_most(base)), Wrong("0", "1", 0, 1))
            self.assertEqual(judge(known.running_scheme(base), equal(base)), Wrong("0", "1", 1, 0))
            self.assertEqual(judge(known.slope_scheme(base), at_most(base)), Wrong("0", "1", 2, 1))
        self.assertEqual(judge(wanted=equal(2), scheme=known.halves_scheme()), Wrong("0", "0", 2, 1))

    def test_planes_that_make_one_another_good(self):
        tree, own = tree_scheme(), known.plain_scheme(2)
        up, down = Scheme(Plane(equal(2) * 3, equal(2))), Scheme(Plane(equal(2), equal(2) * -3))
        self.assertTrue(judge(tree + own, at_most(2)))
        self.assertTrue(judge(up + down, Table.of(2, 2, "e")))
        self.assertFalse(judge(up, Table.of(2, 2, "e")))
        eight = up + down + up + down + up + down + tree + own
        self.assertEqual(len(eight), 8)
        self.assertTrue(judge(eight, at_most(2)))
        self.assertEqual(judge(eight, below(2)), Wrong("", "", 1, 0))
        self.assert_right(eight, at_most(2), judge(eight, at_most(2)))

    def test_tables_with_dead_ends_and_without_ends(self):
        zero = Table.of(2, 2, "e")
        for one, other in itertools.product((dead_end(), zero, ring_of(3)), repeat=2):
            scheme = Scheme(Plane(one, other))
            self.assert_right(scheme, zero, judge(scheme, zero))
            self.assert_wrong(scheme, equal(2), judge(scheme, equal(2)))
        self.assertEqual(judge(Scheme(Plane(zero, zero)), zero).readings, ((),))

    def test_empty_words(self):
        self.assertEqual(judge(Scheme(Plane(equal(2), equal(2) * 7)), at_most(2)), Wrong("", "", 7, 1))
        self.assertEqual(judge(Scheme(Plane(equal(4), equal(4) * 7)), at_most(4)), Wrong("", "", 7, 1))

    def test_400_and_401_numbers(self):
        zero = Table.of(2, 2, "e")
        two = zero.with_step("x", "00", 1, "x")
        scheme = Scheme(Plane(ring_of(19), ring_of(21)))
        assert_raises(self, TooMany, ["numbers", 400], judge, scheme, two)
        assert_raises(self, TooMany, ["readings", 40], judge, scheme, zero)
        # Forty states, thirty-nine of which cannot be come to.
        apart = Table.of(2, 2, "e", *[(f"x{at}", "00", 1, f"x{at}") for at in range(39)], e=1)
        one, other = Plane(equal(2), apart), Plane(below(2, 1), apart)
        self.assertEqual(judge(Scheme(*[one] * 7, other), apart), Wrong("", "", 8, 1))
        self.assertEqual(judge(Scheme(*[one] * 5, other, other), apart), Wrong("", "", 7, 1))
        assert_raises(self, TooMany, ["numbers", 400], judge, Scheme(*[one] * 6, other, other), zero)
        third = Plane(below(2, 1).with_end("z", 1), apart)
        assert_raises(self, TooMany, ["numbers", 400], judge, Scheme(*[one] * 7, third), zero)
        self.assertEqual(judge(Scheme(*[one] * 6, third), zero), Wrong("", "", 7, 0))

    def test_40_and_41_readings(self):
        zero = Table.of(2, 2, "e")
        for many, due in ((1, 2), (5, 6), (39, 40)):
            scheme = Scheme(Plane(all_loops(), ring_of(many)))
            paper = judge(scheme, zero)
            self.assertEqual(len(paper.readings), due)
            self.assert_right(scheme, zero, paper)
        assert_raises(self, TooMany, ["readings", 40], judge, Scheme(Plane(all_loops(), ring_of(40))), zero)
        # A reading that does not end in 0 comes ahead of a forty-first one, or behind it.
        self.assertEqual(judge(Scheme(Plane(all_loops(1), ring_of(40, 2, 1))), zero),
                         Wrong("0" * 39, "0" * 39, 2 ** 39, 0))
        late = ring_of(21), ring_of(20).with_end("r19", 1)
        self.assertEqual(judge(Scheme(Plane(all_loops(), late[0])), late[1]), Wrong("0" * 19, "0" * 19, 0, 1))
        late = ring_of(40), zero.with_step("e", "00", 1, "f").with_step("f", "00", 1, "e")
        assert_raises(self, TooMany, ["readings", 40], judge, Scheme(Plane(all_loops(), late[0])), late[1])

    def test_what_is_refused(self):
        tree = tree_scheme()
        for call in (judge, lambda scheme, wanted: shows_judged(scheme, wanted, None)):
            for value in odd_values():
                if not isinstance(value, Scheme):
                    assert_raises(self, BadScheme, ["scheme"], call, value, below(2))
                    assert_raises(self, BadScheme, ["scheme"], call, value, value)
                if not isinstance(value, Table):
                    assert_raises(self, BadTable, ["wanted"], call, tree, value)
            assert_raises(self, Unlike, ["base"], call, tree, below(3))
            for width in (0, 1, 3):
                assert_raises(self, BadWidth, [width], call, tree, Table.of(2, width, "e"))
                assert_raises(self, Unlike, ["base"], call, tree, Table.of(3, width, "e"))
            assert_order(self, call, {"scheme": tree, "wanted": below(2)},
                         [({"scheme": tree[0]}, BadScheme, ["scheme"]), ({"wanted": tree}, BadTable, ["wanted"])])
        great = Scheme(*[Plane(ring_of(20), ring_of(20))] * 2)
        assert_raises(self, BadWidth, [1], judge, great, size_table())
        assert_raises(self, TooMany, ["numbers", 400], judge, great, below(2))
        self.assertIs(shows_judged(great, below(2), Right(((),), {})), False)

    def test_400_numbers_in_time(self):
        begun = time.process_time()
        zero = Table.of(2, 2, "e")
        for base, classes, seed in ((2, 6, 1), (2, 6, 2), (2, 2, 3)):
            scheme = Scheme(Plane(wide_table(classes, 19, seed), wide_table(classes, 19, seed + 9)))
            paper = judge(scheme, zero)
            self.assertEqual(len(paper.readings), classes ** 2 + 1)
            self.assertIs(shows_judged(scheme, zero, paper), True)
        for base in (2, 3, 4):
            scheme = Scheme(Plane(ring_of(18, base), ring_of(18, base, 1)))
            paper = judge(scheme, Table.of(base, 2, "e"))
            self.assertIs(shows_judged(scheme, Table.of(base, 2, "e"), paper), True)
            dense = Scheme(Plane(crowded(base, 2, 19, 2000, 0, 20), crowded(base, 2, 19, 2000, 3, 20)))
            assert_raises(self, TooMany, ["readings", 40], judge, dense, Table.of(base, 2, "e"))
        self.assertLess(time.process_time() - begun, 60)


class Looks(unittest.TestCase):
    def test_spoiled_papers(self):
        dice = random.Random(53)
        told = {True: 0, False: 0}
        for trial in range(20):
            base = dice.choice((2, 2, 3))
            scheme = some_scheme(dice, base)
            wanted = scheme.answers()
            paper = judge(scheme, wanted)
            vectors = judge_vectors(scheme, wanted)
            for readings, factors in spoiled(paper.readings, paper.factors, vectors.letters):
                due = is_closed(vectors, readings, factors)
                told[due] += 1
                before = snapshot((readings, factors))
                self.assertIs(shows_judged(scheme, wanted, Right(readings, factors)), due)
                self.assertTrue(same(snapshot((readings, factors)), before) if trial < 3 else True)
            self.assertIs(shows_judged(scheme, wanted, Nought(paper.readings, paper.factors)), False)
            self.assertIs(shows_judged(scheme, wanted, Alike(paper.readings, paper.factors)), False)
            odd = wanted.with_end(wanted.start, wanted.ends.get(wanted.start, 0) + 1)
            self.assertIs(shows_judged(scheme, odd, paper), False)
        self.assertGreater(min(told.values()), 100)

    def test_wrong_anywhere(self):
        dice = random.Random(54)
        told = {True: 0, False: 0}
        for trial in range(40):
            base = dice.choice((2, 3))
            scheme, wanted = some_scheme(dice, base), random_table(dice, base, 2, 2)
            for length in range(3):
                entry, question = ["".join(dice.choice("0123"[:base]) for _ in range(length)) for _ in range(2)]
                one, other = slow_told(scheme, entry, question), wanted[entry, question]
                told[one != other] += 1
                self.assertIs(shows_judged(scheme, wanted, Wrong(entry, question, one, other)), one != other)
                for first, second in ((one + 1, other), (one, other + 1), (one, one), (other, one), (str(one), other),
                                      (one, None), (bool(one), other), (one, bool(other)), (None, None)):
                    due = one != other and same((first, second), (one, other))
                    self.assertIs(shows_judged(scheme, wanted, Wrong(entry, question, first, second)), due)
                for words in ((entry + "0", question), (entry, question + "0"), ("4" * length + "4", "0" * (length + 1)),
                              (list(entry), question), (entry, None), ((entry,), (question,)), (length, length)):
                    self.assertIs(shows_judged(scheme, wanted, Wrong(*words, one, other)), False)
        self.assertGreater(min(told.values()), 30)

    def test_words_of_100_digits(self):
        tree = tree_scheme()
        for length, due in ((0, True), (1, True), (100, True), (101, False)):
            self.assertIs(shows_judged(tree, at_most(2), Wrong("1" * length, "1" * length, 0, 1)), due)
        self.assertIs(shows_judged(tree, at_most(2), Wrong("1" * 100, "1" * 100, 1, 0)), False)

    def test_100_and_101_letters(self):
        """Behind one letter or more all vectors are alike, as the question table has one cell for each question."""
        cells = Table.of(2, 2, "e", ("e", "00", 1, "e"), ("e", "10", 1, "e"))
        scheme, wanted = Scheme(Plane(all_loops(), cells)), Table.of(2, 2, "e")
        factors = {(at, letter): (1, (0, 1)) for at in (0, 1) for letter in letters_of(2, 2)}
        self.assertTrue(is_closed(judge_vectors(scheme, wanted), ((), ("10",)), factors))
        for length, due in ((0, False), (1, True), (2, True), (100, True), (101, False)):
            self.assertIs(shows_judged(scheme, wanted, Right(((), ("10",) * length), factors)), due)

    def test_40_and_41_readings(self):
        zero = Table.of(2, 2, "e")
        scheme = Scheme(Plane(all_loops(), ring_of(38)))
        paper = judge(scheme, zero)
        readings, factors = more_by_one(paper.readings, paper.factors, letters_of(2, 2), 3)
        self.assertEqual(len(readings), 40)
        self.assertIs(shows_judged(scheme, zero, Right(readings, factors)), True)
        readings, factors = more_by_one(readings, factors, letters_of(2, 2), 3)
        self.assertIs(shows_judged(scheme, zero, Right(readings, factors)), False)
        self.assertIs(shows_judged(scheme, zero, Right((), {})), False)

    def test_any_values(self):
        tree = tree_scheme()
        for value in odd_values():
            self.assertIs(shows_judged(tree, at_most(2), value), False)
            for other in odd_values():
                self.assertIs(shows_judged(tree, below(2), Right(value, other)), False)
                self.assertIs(shows_judged(tree, at_most(2), Wrong(value, other, 0, 1)), (value, other) == ("0", "0") or
                              (value, other) == ("", ""))
                self.assertIs(shows_judged(tree, at_most(2), Wrong("", "", value, other)), False)
        self.assertIs(shows_judged(value=Wrong("", "", 0, 1), wanted=at_most(2), scheme=tree), True)

    def test_papers_of_40_readings_in_time(self):
        begun = time.process_time()
        scheme = Scheme(Plane(wide_table(6, 19, 4), wide_table(6, 19, 5)))
        zero = Table.of(2, 2, "e")
        dice = random.Random(55)
        readings = ((),) + tuple(tuple(dice.choice(letters_of(2, 2)) for _ in range(dice.choice((5, 20))))
                                 for _ in range(39))
        nothing = {(at, letter): (1, (0,) * 40) for at in range(40) for letter in letters_of(2, 2)}
        self.assertIs(shows_judged(scheme, zero, Right(readings, nothing)), False)
        self.assertLess(time.process_time() - begun, 60)


if __name__ == "__main__":
    unittest.main()
