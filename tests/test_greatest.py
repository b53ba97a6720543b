"""Stores that keep the greatest: covered schemes, uncovered ones with the least words, and looks at both papers."""

import itertools
import random
import time
import unittest

from helpers import (
    assert_order, assert_raises, at_most, below, crowded, equal, letters_of, odd_values, random_table, same,
    size_table, slow_at, snapshot, tree_scheme, words_of_length)
from sumdigits import known
from sumdigits.errors import BadScheme, BadTable, BadWidth, TooMany, Unlike
from sumdigits.greatest import Covered, Uncovered, keeps_greatest
from sumdigits.judged import Right, judge
from sumdigits.look_greatest import shows_greatest
from sumdigits.schemes import Plane, Scheme
from sumdigits.tables import Table
from sumdigits.words import words_of
from test_judged import all_loops, dead_end, ring_of
from test_known import known_schemes

ABOVE = (1, 1, 2, 7)


def some_table(dice, base, most=2, share=0.4):
    return random_table(dice, base, 2, most, ABOVE, share)


def some_scheme(dice, base, planes=2, share=0.4):
    return Scheme(*[Plane(some_table(dice, base, 2, share), some_table(dice, base, 2, share))
                    for _ in range(dice.randint(1, planes))])


class Sets:
    """Spots and marks gone through anew, as sets of tuples and of names."""

    def __init__(self, scheme, wanted):
        self.scheme, self.wanted = scheme, wanted
        self.letters = letters_of(scheme.base, 2)
        self.start = (frozenset((at, plane.change.start, plane.question.start) for at, plane in enumerate(scheme)),
                      frozenset([wanted.start]))

    def behind(self, pair, letter):
        spots = frozenset((at, goal, further) for at, state, mate in pair[0] for cell in "0123"[:self.scheme.base]
                          for goal in self.scheme[at].change.steps.get((state, letter[0] + cell), {})
                          for further in self.scheme[at].question.steps.get((mate, letter[1] + cell), {}))
        marks = frozenset(goal for state in pair[1] for goal in self.wanted.steps.get((state, letter), {}))
        return spots, marks

    def opened(self, pair):
        return (any(state in self.scheme[at].change.ends and mate in self.scheme[at].question.ends
                    for at, state, mate in pair[0]), any(state in self.wanted.ends for state in pair[1]))

    def is_odd(self, pair):
        told, due = self.opened(pair)
        return told is not due

    def in_order(self, most):
        """At most so many pairs with the least reading that leads to each, up to the first odd one."""
        found = {self.start: ()}
        queue = [self.start]
        for pair in queue:
            if self.is_odd(pair):
                break
            for letter in self.letters:
                further = self.behind(pair, letter)
                if further not in found and len(found) < most:
                    found[further] = found[pair] + (letter,)
                    queue.append(further)
        odd = [at for at, pair in enumerate(queue) if self.is_odd(pair)]
        return [(pair, found[pair]) for pair in (queue[:odd[0] + 1] if odd else queue)]

    def told(self, pair):
        return (tuple(sorted(f"{at} {state} {mate}" for at, state, mate in pair[0])), tuple(sorted(pair[1])))

    def due_paper(self, most=500):
        pairs = self.in_order(most)
        last, reading = pairs[-1]
        if self.is_odd(last):
            return Uncovered(*words_of(reading, 2), *self.opened(last))
        return Covered(tuple(self.told(pair) for pair, _ in pairs))

    def shown(self, value):
        """Whether a paper is right."""
        if type(value) is Uncovered:
            return self.shown_uncovered(value.entry, value.question, value.told, value.due)
        if type(value) is not Covered or type(value.pairs) is not tuple:
            return False
        spots = {f"{at} {state} {mate}": (at, state, mate) for at, plane in enumerate(self.scheme)
                 for state in plane.change.states for mate in plane.question.states}
        pairs = set()
        for pair in value.pairs:
            if type(pair) is not tuple or len(pair) != 2:
                return False
            for part, known_texts in zip(pair, (spots, self.wanted.states)):
                if type(part) is not tuple or any(type(text) is not str or text not in known_texts for text in part):
                    return False
                if list(part) != sorted(set(part)):
                    return False
            pairs.add((frozenset(spots[text] for text in pair[0]), frozenset(pair[1])))
        if self.start not in pairs or any(self.is_odd(pair) for pair in pairs):
            return False
        return all(self.behind(pair, letter) in pairs for pair in pairs for letter in self.letters)

    def shown_uncovered(self, entry, question, told, due):
        digits = "0123"[:self.scheme.base]
        for word in (entry, question):
            if type(word) is not str or len(word) > 100 or not set(word) <= set(digits):
                return False
        if len(entry) != len(question) or type(told) is not bool or type(due) is not bool:
            return False
        pair = self.start
        for letter in zip(entry, question):
            pair = self.behind(pair, "".join(letter))
        return told is not due and self.opened(pair) == (told, due)


def has_cell(scheme, entry, question):
    """Whether there is a cell, by all cells and all ways."""
    return any(slow_at(plane.change, entry, cell) > 0 and slow_at(plane.question, question, cell) > 0
               for plane in scheme for cell in words_of_length(scheme.base, len(entry)))


def least_uncovered(scheme, wanted, most):
    """The least reading of at most so many letters at which the scheme is not right there; None without one."""
    for length in range(most + 1):
        for reading in itertools.product(letters_of(scheme.base, 2), repeat=length):
            entry, question = words_of(reading, 2)
            told, due = has_cell(scheme, entry, question), slow_at(wanted, entry, question) > 0
            if told is not due:
                return Uncovered(entry, question, told, due)
    return None


def answers_by_greatest(scheme, column, length):
    """What a store that keeps the greatest answers to each question, by the tables alone."""
    words = words_of_length(scheme.base, length)
    cells = [{cell: max(entry if plane.change[word, cell] > 0 else 0 for word, entry in zip(words, column))
              for cell in words} for plane in scheme]
    return [max(cells[at][cell] if plane.question[question, cell] > 0 else 0
                for at, plane in enumerate(scheme) for cell in words) for question in words]


def wanted_by_greatest(wanted, column, length):
    words = words_of_length(wanted.base, length)
    return [max(entry if wanted[word, question] > 0 else 0 for word, entry in zip(words, column)) for question in words]


def drawn_cases(seed, many):
    """Schemes and wanted tables, a good part of which the schemes are right for there."""
    dice = random.Random(seed)
    for trial in range(many):
        base = dice.choice((2, 2, 3))
        scheme = some_scheme(dice, base)
        wanted = some_table(dice, base)
        if trial % 3 == 0:
            wanted = scheme.answers()
        elif trial % 3 == 1:
            wanted = dice.choice((scheme.answers() * 3, scheme.answers() + scheme.answers(), scheme[0].answers()))
        yield scheme, wanted


def by_digits(dice, many, base):
    """A table whose one state behind words depends on the digits of the first word alone: a cell for each."""
    names = [f"d{at}" for at in range(many)]
    goals = {(name, digit): dice.choice(names) for name in names for digit in "0123"[:base]}
    return Table(base, 2, names[0], {(name, digit + "0"): {goal: 1} for (name, digit), goal in goals.items()}, {})


def by_letters(dice, many, base):
    names = [f"w{at}" for at in range(many)]
    return Table(base, 2, names[0], {(name, letter): {dice.choice(names): 1} for name in names
                                     for letter in letters_of(base, 2)}, {})


class Greatest(unittest.TestCase):
    def assert_paper(self, scheme, wanted):
        before = snapshot((scheme, wanted))
        paper = keeps_greatest(scheme, wanted)
        self.assertTrue(same(snapshot((scheme, wanted)), before))
        due = Sets(scheme, wanted).due_paper()
        self.assertIs(type(paper), type(due))
        self.assertTrue(same(vars(paper), vars(due)), (vars(paper), vars(due)))
        self.assertIs(bool(paper), type(paper) is Covered)
        return paper

    def test_drawn_schemes(self):
        kinds = {Covered: 0, Uncovered: 0}
        for scheme, wanted in drawn_cases(70, 150):
            paper = self.assert_paper(scheme, wanted)
            kinds[type(paper)] += 1
            if paper:
                self.assertIsNone(least_uncovered(scheme, wanted, 2))
            elif len(paper.entry) <= 3:
                self.assertTrue(same(vars(paper), vars(least_uncovered(scheme, wanted, 3))))
        self.assertGreater(min(kinds.values()), 40)

    def test_columns(self):
        """Cells and answers that keep the greatest, by the tables alone."""
        dice = random.Random(71)
        kinds = {Covered: 0, Uncovered: 0}
        for scheme, wanted in drawn_cases(72, 45):
            paper = keeps_greatest(scheme, wanted)
            kinds[type(paper)] += 1
            if paper:
                for length in range(4 if scheme.base == 2 else 3):
                    column = [dice.choice((0, 1, 5, 10 ** 30, dice.randint(0, 9)))
                              for _ in range(scheme.base ** length)]
                    self.assertEqual(answers_by_greatest(scheme, column, length),
                                     wanted_by_greatest(wanted, column, length))
            elif len(paper.entry) <= 3:
                words = words_of_length(scheme.base, len(paper.entry))
                column = [int(word == paper.entry) * 7 for word in words]
                at = words.index(paper.question)
                told, due = [reckoned(table, column, len(paper.entry))[at] for reckoned, table in
                             ((answers_by_greatest, scheme), (wanted_by_greatest, wanted))]
                self.assertEqual([told, due], [7 * paper.told, 7 * paper.due])
                self.assertNotEqual(told, due)
        self.assertGreater(min(kinds.values()), 10)

    def test_known_schemes(self):
        tables = {base: [known.equal(base), known.below(base), known.at_most(base), known.within(base),
                         known.next_one(base), known.ones(base, 2), known.power(base, 2), known.power(base, 0)]
                  for base in (2, 3, 4)}
        covered = 0
        for name, base, scheme, due, _ in known_schemes():
            for wanted in tables[base]:
                if name in ("halves", "slope"):
                    assert_raises(self, BadScheme, ["weights"], keeps_greatest, scheme, wanted)
                else:
                    covered += bool(self.assert_paper(scheme, wanted))
        # Plain schemes answer equal, which power by 2 is above 0 at as well.
        self.assertEqual(covered, 3 * (2 + 1 + 1 + 1))

    def test_right_for_sums_is_right_there(self):
        dice = random.Random(73)
        right = 0
        for trial in range(80):
            scheme = some_scheme(dice, dice.choice((2, 3)))
            for wanted in (scheme.answers(), some_table(dice, scheme.base), scheme.answers() * 2):
                if judge(scheme, wanted):
                    right += 1
                    self.assertTrue(keeps_greatest(scheme, wanted))
        self.assertGreater(right, 70)
        for name, base, scheme, _, _ in known_schemes():
            if name not in ("halves", "slope"):
                self.assertTrue(keeps_greatest(scheme, scheme.answers()))

    def test_the_other_way_about_it_is_not(self):
        twice = tree_scheme() + tree_scheme()
        self.assertFalse(judge(twice, below(2)))
        self.assertTrue(keeps_greatest(twice, below(2)))
        steps = {("e", "00"): {"e": 1, "f": 1}, ("e", "11"): {"e": 1}, ("f", "01"): {"f": 1}, ("f", "11"): {"f": 1}}
        down = {("e", "00"): {"e": 1}, ("e", "11"): {"e": 1}, ("e", "10"): {"f": 1}, ("f", "01"): {"f": 1},
                ("f", "11"): {"f": 1}}
        single = Scheme(Plane(Table(2, 2, "e", steps, {"e": 1, "f": 1}), Table(2, 2, "e", down, {"e": 1, "f": 1})))
        self.assertFalse(judge(single, at_most(2)))
        self.assertTrue(self.assert_paper(single, at_most(2)))

    def test_empty_words(self):
        self.assertEqual(keeps_greatest(tree_scheme(), at_most(2)), Uncovered("", "", False, True))
        self.assertEqual(keeps_greatest(known.plain_scheme(4), below(4)), Uncovered("", "", True, False))
        paper = keeps_greatest(wanted=equal(3), scheme=known.plain_scheme(3))
        self.assertEqual(paper, Covered(((("0 e e",), ("e",)), ((), ()))))
        self.assertEqual(keeps_greatest(known.plain_scheme(2), at_most(2)), Uncovered("0", "1", False, True))

    def test_one_plane_and_eight(self):
        tree, own = tree_scheme(), known.plain_scheme(2)
        eight = tree + tree + own + tree + tree + tree + own + tree
        paper = self.assert_paper(eight, at_most(2))
        self.assertTrue(paper)
        self.assertEqual(paper.pairs[0], (tuple(f"{at} e e" for at in range(8)), ("e",)))
        self.assertEqual(self.assert_paper(eight, below(2)), Uncovered("", "", True, False))
        nothing = Plane(Table.of(2, 2, "e"), Table.of(2, 2, "x"))
        self.assertEqual(self.assert_paper(Scheme(*[nothing] * 8), Table.of(2, 2, "z")).pairs[0],
                         (tuple(f"{at} e x" for at in range(8)), ("z",)))

    def test_tables_with_dead_ends_and_without_ends(self):
        zero = Table.of(2, 2, "e")
        far = dead_end().with_step("far2", "11", 5, "e").with_end("far2", 3)
        for one, other in itertools.product((dead_end(), far, zero, ring_of(3), all_loops()), repeat=2):
            scheme = Scheme(Plane(one, other))
            self.assertTrue(self.assert_paper(scheme, zero))
            self.assertTrue(self.assert_paper(scheme, dead_end()))
            self.assertEqual(self.assert_paper(scheme, equal(2)), Uncovered("", "", False, True))
        self.assertEqual(self.assert_paper(Scheme(Plane(all_loops(5), all_loops(2))), known.ones(2, 2)).pairs,
                         ((("0 e e",), ("e",)),))

    def test_weights_are_not_counted(self):
        """What is above 0 by great numbers or many ways is above 0."""
        great = Scheme(Plane(equal(2) * 10 ** 50, at_most(2) * 3))
        self.assertTrue(self.assert_paper(great, great.answers()))
        self.assertTrue(self.assert_paper(great, ~at_most(2) * 1))
        self.assertEqual(self.assert_paper(great, at_most(2)), Uncovered("0", "1", False, True))

    def test_400_and_401_numbers(self):
        zero = Table.of(2, 2, "e")
        scheme = Scheme(Plane(ring_of(20), ring_of(20)))
        self.assertEqual(len(self.assert_paper(scheme, zero).pairs), 21)
        apart = Table.of(2, 2, "e", *[(f"x{at}", "00", 1, f"x{at}") for at in range(39)], e=1)
        one, two = Plane(equal(2), apart), Plane(below(2, 1), apart)
        self.assertEqual(keeps_greatest(Scheme(*[one] * 7, Plane(below(2, 1).with_end("z", 1), apart)), zero),
                         Uncovered("", "", True, False))
        self.assertEqual(keeps_greatest(Scheme(one, one, two, two, two, two), zero), Uncovered("", "", True, False))
        assert_raises(self, TooMany, ["numbers", 400], keeps_greatest, Scheme(one, two, two, two, two, two), zero)
        more = Plane(all_loops(), all_loops())
        assert_raises(self, TooMany, ["numbers", 400], keeps_greatest, scheme + Scheme(more), zero)
        # The states of the wanted table are not among these numbers.
        self.assertEqual(len(keeps_greatest(scheme, ring_of(40)).pairs), 40)
        self.assertIs(shows_greatest(scheme + Scheme(more), zero, Covered(())), False)

    def test_500_and_501_pairs(self):
        """Rings side by side behind a tail: as many pairs as the tail is long, and the least common multiple."""
        for tail, many in ((0, 496), (3, 499), (4, 500)):
            scheme, wanted = self.turning(tail)
            self.assertEqual(len(self.assert_paper(scheme, wanted).pairs), many)
        for tail in (5, 6, 9):
            scheme, wanted = self.turning(tail)
            assert_raises(self, TooMany, ["pairs", 500], keeps_greatest, scheme, wanted)

    def turning(self, tail):
        names = [f"t{at}" for at in range(tail)] + [f"u{at:02}" for at in range(31)]
        steps = {(name, letter): {goal: 1} for name, goal in zip(names, names[1:] + [names[tail]])
                 for letter in letters_of(2, 2)}
        return Scheme(Plane(ring_of(16), all_loops())), Table(2, 2, names[0], steps, {})

    def test_an_odd_pair_ahead_of_the_bound_and_behind_it(self):
        """Deterministic tables, ends at the states of one spot: the pair of this index is the first odd one."""
        tried = {499: 0, 500: 0, 501: 0}
        for seed in range(60):
            dice = random.Random(seed)
            change, question = by_digits(dice, 20, 3), by_digits(dice, 20, 3)
            wanted = by_letters(dice, 40, 3)
            pairs = Sets(Scheme(Plane(change, question)), wanted).in_order(502)
            if len(pairs) < 502:
                continue
            spots = [pair[0] for pair, _ in pairs]
            for at in tried:
                if spots.index(spots[at]) == at:
                    (_, state, mate), = spots[at]
                    scheme = Scheme(Plane(change.with_end(state, 1), question.with_end(mate, 1)))
                    if at == 499:
                        entry, question_word = words_of(pairs[at][1], 2)
                        self.assertEqual(keeps_greatest(scheme, wanted), Uncovered(entry, question_word, True, False))
                    else:
                        assert_raises(self, TooMany, ["pairs", 500], keeps_greatest, scheme, wanted)
                    tried[at] += 1
            if min(tried.values()) > 2:
                break
        self.assertGreater(min(tried.values()), 2)

    def test_more_than_100_digits(self):
        """Rings of unlike lengths come to their ends together late."""
        zero = Table.of(2, 2, "e")
        for one, other in ((19, 21), (9, 11), (10, 11), (8, 13)):
            scheme = Scheme(Plane(ring_of(one, 2, 1), ring_of(other, 2, 1)))
            word = "0" * (one * other - 1)
            paper = keeps_greatest(scheme, zero)
            self.assertTrue(same(vars(paper), vars(Uncovered(word, word, True, False))))
            self.assertIs(shows_greatest(scheme, zero, paper), len(word) <= 100)
        self.assertEqual(keeps_greatest(Scheme(Plane(ring_of(40), all_loops(1))), ring_of(40, 2, 3)),
                         Uncovered("0" * 39, "0" * 39, False, True))

    def test_what_is_refused(self):
        tree, twos = tree_scheme(), below(2)
        for call in (keeps_greatest, lambda scheme, wanted: shows_greatest(scheme, wanted, None)):
            for value in odd_values():
                if not isinstance(value, Scheme):
                    assert_raises(self, BadScheme, ["scheme"], call, value, twos)
                    assert_raises(self, BadScheme, ["scheme"], call, value, value)
                if not isinstance(value, Table):
                    assert_raises(self, BadTable, ["wanted"], call, tree, value)
                    assert_raises(self, BadTable, ["wanted"], call, known.halves_scheme(), value)
            assert_raises(self, Unlike, ["base"], call, tree, below(3))
            assert_raises(self, Unlike, ["base"], call, known.halves_scheme(), below(3) * -1)
            for width in (0, 1, 3):
                assert_raises(self, BadWidth, [width], call, tree, Table.of(2, width, "e"))
                assert_raises(self, BadWidth, [width], call, known.halves_scheme(), Table.of(2, width, "e"))
                assert_raises(self, Unlike, ["base"], call, tree, Table.of(3, width, "e"))
            self.check_weights(call)

    def check_weights(self, call):
        """A weight below 0 of a step or an end, in each of the tables, also where no way goes."""
        tree, twos = tree_scheme(), below(2)
        step = twos.with_step("far", "00", -1, "e")
        end = twos.with_end("far", -1)
        both = Scheme(*[tree[0]] * 3)
        for odd in (step, end, twos.with_end("f", -10 ** 40), twos.with_step("e", "00", -2, "e")):
            assert_raises(self, BadTable, ["weights"], call, tree, odd)
            for plane in (Plane(odd, twos), Plane(twos, odd)):
                for scheme in (Scheme(plane), both + Scheme(plane), Scheme(plane) + both):
                    assert_raises(self, BadScheme, ["weights"], call, scheme, twos)
                    assert_raises(self, BadScheme, ["weights"], call, scheme, odd)
        great = Scheme(Plane(ring_of(20), ring_of(20))) + tree
        assert_raises(self, BadTable, ["weights"], call, great, step)
        assert_raises(self, BadWidth, [1], call, great, size_table())

    def test_order_of_what_is_refused(self):
        tree, zero = tree_scheme(), Table.of(2, 2, "e")
        assert_order(self, keeps_greatest, {"scheme": tree, "wanted": below(2)},
                     [({"scheme": tree[0]}, BadScheme, ["scheme"]), ({"wanted": tree}, BadTable, ["wanted"])])
        great = Scheme(Plane(ring_of(20), ring_of(20))) + tree
        assert_raises(self, TooMany, ["numbers", 400], keeps_greatest, great, at_most(2))
        assert_raises(self, BadScheme, ["weights"], keeps_greatest, great + known.halves_scheme(), zero)

    def test_in_time(self):
        begun = time.process_time()
        for base, steps, seed in itertools.product((2, 3, 4), (60, 150, 2000), (1, 2)):
            scheme = Scheme(Plane(crowded(base, 2, 20, steps, 0, 1, seed), crowded(base, 2, 20, steps, 0, 1, seed + 5)))
            wanted = crowded(base, 2, 40, 120, 0, 1, seed + 9)
            try:
                paper = keeps_greatest(scheme, wanted)
            except TooMany as caught:
                self.assertEqual(vars(caught), {"what": "pairs", "most": 500})
            else:
                self.assertIs(shows_greatest(scheme, wanted, paper), True)
        for tail in (4, 5) * 5:
            scheme, wanted = self.turning(tail)
            if tail == 4:
                self.assertIs(shows_greatest(scheme, wanted, keeps_greatest(scheme, wanted)), True)
        self.assertLess(time.process_time() - begun, 20)


class Looks(unittest.TestCase):
    def test_what_it_tells(self):
        for scheme, wanted in drawn_cases(74, 60):
            paper = keeps_greatest(scheme, wanted)
            self.assertIs(shows_greatest(scheme, wanted, paper), True)
            other = at_most(scheme.base)
            self.assertIs(shows_greatest(scheme, other, paper), Sets(scheme, other).shown(paper))

    def test_spoiled_pairs(self):
        told = {True: 0, False: 0}
        for scheme, wanted in drawn_cases(75, 60):
            paper = keeps_greatest(scheme, wanted)
            if not paper:
                continue
            sets = Sets(scheme, wanted)
            for pairs in spoiled_pairs(paper.pairs, scheme, wanted):
                due = sets.shown(Covered(pairs))
                told[due] += 1
                before = snapshot(pairs)
                self.assertIs(shows_greatest(scheme, wanted, Covered(pairs)), due, pairs)
                self.assertTrue(same(snapshot(pairs), before))
        self.assertGreater(min(told.values()), 100)

    def test_pairs_in_any_order_more_and_twice(self):
        tree = tree_scheme()
        pairs = keeps_greatest(tree, below(2)).pairs
        for other in (pairs[::-1], pairs + pairs[:1], pairs + pairs, pairs[3:] + pairs[:3]):
            self.assertIs(shows_greatest(tree, below(2), Covered(other)), True)
        for at in range(len(pairs)):
            self.assertIs(shows_greatest(tree, below(2), Covered(pairs[:at] + pairs[at + 1:])), False)
        # A pair that no words lead to, with all pairs behind it.
        self.assertIs(shows_greatest(tree, below(2), Covered(pairs + ((("0 f e",), ()),))), True)
        # One whose spots are open while its marks are not.
        self.assertIs(shows_greatest(tree, below(2), Covered(pairs + ((("0 f f",), ("e",)),))), False)
        self.assertIs(shows_greatest(tree, below(2), Covered(pairs + (((), ("f",)),))), False)
        # One behind which a pair is missing.
        self.assertIs(shows_greatest(tree, below(2), Covered(pairs + ((("0 e e", "0 e f"), ("e",)),))), False)
        self.assertIs(shows_greatest(tree, below(2), Covered(())), False)

    def test_uncovered_anywhere(self):
        dice = random.Random(76)
        told = {True: 0, False: 0}
        for scheme, wanted in drawn_cases(77, 60):
            sets = Sets(scheme, wanted)
            digits = "0123"[:scheme.base]
            for length in (0, 1, 2, 3, 9):
                entry, question = ["".join(dice.choice(digits) for _ in range(length)) for _ in range(2)]
                for one, other in itertools.product((True, False, 1, 0, None, "True"), repeat=2):
                    due = sets.shown_uncovered(entry, question, one, other)
                    told[due] += 1
                    self.assertIs(shows_greatest(scheme, wanted, Uncovered(entry, question, one, other)), due)
                for words in ((entry + "0", question), (entry, question + "0"), (list(entry), question),
                              (entry, None), ((entry,), (question,)), (length, length), (entry + "4", question + "4")):
                    for one in (True, False):
                        self.assertIs(shows_greatest(scheme, wanted, Uncovered(*words, one, not one)), False)
        self.assertGreater(min(told.values()), 25)

    def test_100_and_101_digits(self):
        tree = tree_scheme()
        for length, due in ((0, True), (1, True), (99, True), (100, True), (101, False), (200, False)):
            self.assertIs(shows_greatest(tree, at_most(2), Uncovered("1" * length, "1" * length, False, True)), due)
            self.assertIs(shows_greatest(tree, at_most(2), Uncovered("1" * length, "1" * length, True, False)), False)
        self.assertIs(shows_greatest(tree, at_most(2), Uncovered("0" * 99 + "1", "0" * 99 + "0", True, False)), False)

    def test_any_values(self):
        tree = tree_scheme()
        for value in odd_values():
            self.assertIs(shows_greatest(tree, at_most(2), value), False)
            self.assertIs(shows_greatest(tree, below(2), Covered(value)), False)
            self.assertIs(shows_greatest(tree, below(2), Covered((value,))), False)
            self.assertIs(shows_greatest(tree, below(2), Covered(((value, ("e",)),))), False)
            self.assertIs(shows_greatest(tree, below(2), Covered(((("0 e e",), value),))), False)
            for other in odd_values():
                right = type(value) is str and value == other and value in ("", "0")
                self.assertIs(shows_greatest(tree, at_most(2), Uncovered(value, other, False, True)), right)
                right = value is False and other is True
                self.assertIs(shows_greatest(tree, at_most(2), Uncovered("", "", value, other)), right)
        self.assertIs(shows_greatest(value=Uncovered("", "", False, True), wanted=at_most(2), scheme=tree), True)
        self.assertIs(shows_greatest(tree, below(2), Right(((),), {})), False)

    def test_more_pairs_than_keeps_greatest_tells(self):
        """The looks have no bounds of their own: 420 numbers, 505 pairs."""
        rings = Scheme(Plane(ring_of(21), ring_of(20)))
        zero = Table.of(2, 2, "e")
        paper = Covered(tuple(Sets(rings, zero).told(pair) for pair, _ in Sets(rings, zero).in_order(1000)))
        self.assertEqual(len(paper.pairs), 421)
        self.assertIs(shows_greatest(rings, zero, paper), True)
        scheme, wanted = Greatest().turning(9)
        paper = Covered(tuple(Sets(scheme, wanted).told(pair) for pair, _ in Sets(scheme, wanted).in_order(1000)))
        self.assertEqual(len(paper.pairs), 505)
        self.assertIs(shows_greatest(scheme, wanted, paper), True)
        self.assertIs(shows_greatest(scheme, wanted, Covered(paper.pairs[:-1])), False)


def spoiled_pairs(pairs, scheme, wanted):
    """The pairs of a right paper with something otherwise, mostly wrong."""
    found = [pairs[::-1], pairs + pairs[-1:], list(pairs), pairs[:-1], pairs[1:], (), pairs + ((),), pairs + (None,),
             pairs + (((), ()),), pairs + ((("0 e e",), (wanted.start,)),), {pair: True for pair in pairs}]
    for at in {0, len(pairs) // 2, len(pairs) - 1}:
        spots, marks = pairs[at]
        others = [(marks, spots), (spots,), (spots, marks, ()), [spots, marks], (list(spots), marks),
                  (spots, list(marks)), (spots[::-1], marks), (spots, marks[::-1]), (spots + spots[-1:], marks),
                  (spots[:-1], marks), (spots[1:], marks), (spots, marks[:-1]), (spots, marks + ("zz",)),
                  (spots, marks + ("zz",)), (spots + ("9 e e",), marks), (spots, wanted.states), (None, marks),
                  (" ".join(spots), marks), (tuple(spot.replace("0", "00", 1) for spot in spots), marks),
                  (tuple(spot + " " for spot in spots), marks), (tuple(tuple(spot.split()) for spot in spots), marks),
                  (spots, tuple([mark] for mark in marks)), (spots, (True,)), ((1,), marks)]
        for other in others:
            found.append(pairs[:at] + (other,) + pairs[at + 1:])
            found.append(pairs + (other,))
        found.append(pairs[:at] + pairs[at + 1:])
    return found


if __name__ == "__main__":
    unittest.main()
