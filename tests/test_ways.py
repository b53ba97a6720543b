"""Ways: how many there are, tables with one way or two, cells that are touched and read, and loads."""

import itertools
import random
import time
import unittest

from helpers import (
    assert_order, assert_raises, at_most, below, chain, crowded, equal, letters_of, odd_values, random_table,
    readings_of_length, same, size_table, slow_at, snapshot, some_function, tree_scheme, words_of_length)
from sumdigits import known
from sumdigits.errors import BadNumber, BadPlane, BadScheme, BadTable, BadWord
from sumdigits.schemes import Plane, Scheme
from sumdigits.tables import Table
from sumdigits.ways import OneWay, TwoWays, load, one_way, read_by, touched, ways
from test_judged import all_loops, dead_end
from test_known import known_schemes, words_behind

WEIGHTS = (-3, -1, -1, 1, 1, 2, 10 ** 30)


def counted(table, reading):
    """The number of ways that come to an end, way by way."""

    def walk(state, at):
        if at == len(reading):
            return int(state in table.ends)
        return sum(walk(goal, at + 1) for goal in table.steps.get((state, reading[at]), {}))

    return walk(table.start, 0)


def least_with_two(table, most):
    """The least reading of at most so many letters with more than one way, by going through all; None without."""
    for length in range(most + 1):
        for reading in readings_of_length(table.base, table.width, length):
            if counted(table, reading) > 1:
                return reading
    return None


def told_of(reading, width):
    return len(reading) if width == 0 else words_behind(reading, width)


def has_two(table):
    """Whether some reading of any length has two ways: pairs of states, with a mark behind which they have parted."""
    seen = {(table.start, table.start, False)}
    queue = list(seen)
    for one, other, parted in queue:
        for letter in letters_of(table.base, table.width):
            for goal in table.steps.get((one, letter), {}):
                for mate in table.steps.get((other, letter), {}):
                    key = (goal, mate, parted or goal != mate)
                    if key not in seen:
                        seen.add(key)
                        queue.append(key)
    return any(parted and one in table.ends and other in table.ends for one, other, parted in seen)


def branched(one, other, base=2, width=1):
    """Two rings behind one start, each with one end; a word that comes to both ends has two ways."""
    letter = "0" * width
    steps = [("s", letter, 1, "a0"), ("s", letter, -1, "b0")]
    for name, many in (("a", one), ("b", other)):
        steps += [(f"{name}{at}", letter, 1, f"{name}{(at + 1) % many}") for at in range(many)]
    return Table.of(base, width, "s", *steps, **{f"a{one - 1}": 1, f"b{other - 1}": 5})


class Ways(unittest.TestCase):
    def test_by_all_ways(self):
        dice = random.Random(80)
        for trial in range(60):
            base, width = dice.choice((2, 3)), dice.choice((0, 1, 1, 2))
            table = random_table(dice, base, width, 4, WEIGHTS)
            before = snapshot(table)
            found = ways(table)
            self.assertTrue(same(snapshot(table), before))
            self.assertTrue(same([found.base, found.width, found.start, found.states],
                                 [base, width, table.start, table.states]))
            self.assertTrue(same(found.steps, {key: {goal: 1 for goal in goals} for key, goals in table.steps.items()}))
            self.assertTrue(same(found.ends, {state: 1 for state in table.ends}))
            for length in range(4):
                for reading in readings_of_length(base, width, length):
                    told = found.total(length) if width == 0 else found.tell(*words_behind(reading, width))
                    self.assertEqual(told, counted(table, reading))

    def test_by_hand(self):
        self.assertEqual(ways(size_table())["1101"], 3)
        self.assertEqual(ways(size_table() * -5)["0000"], 0)
        self.assertEqual(ways(table=equal(2) * 7), equal(2))
        gone = Table.of(2, 1, "s", ("s", "0", 1, "a"), ("s", "0", -1, "b"), a=4, b=4)
        self.assertEqual([gone["0"], ways(gone)["0"]], [0, 2])
        self.assertEqual(ways(dead_end()).states, dead_end().states)

    def test_what_is_refused(self):
        for value in odd_values():
            if not isinstance(value, Table):
                assert_raises(self, BadTable, ["table"], ways, value)
                assert_raises(self, BadTable, ["table"], one_way, value)


class OneWays(unittest.TestCase):
    def assert_paper(self, table, most):
        before = snapshot(table)
        paper = one_way(table)
        self.assertTrue(same(snapshot(table), before))
        self.assertIs(bool(paper), not has_two(table))
        if paper:
            self.assertIs(type(paper), OneWay)
            self.assertIsNone(least_with_two(table, most))
        else:
            self.assertIs(type(paper), TwoWays)
            long = paper.words if table.width == 0 else len(paper.words[0])
            self.assertTrue(same(paper.words, told_of(least_with_two(table, long), table.width)), vars(paper))
        return paper

    def test_drawn_tables(self):
        dice = random.Random(81)
        kinds = {OneWay: 0, TwoWays: 0}
        for trial in range(400):
            base, width = dice.choice((2, 2, 3)), dice.choice((0, 1, 1, 2))
            table = random_table(dice, base, width, 5, WEIGHTS, dice.choice((0.1, 0.15, 0.2, 0.3)))
            kinds[type(self.assert_paper(table, 4 if width < 2 else 2))] += 1
        self.assertGreater(min(kinds.values()), 100)

    def test_known_tables(self):
        for base in (2, 3, 4):
            for table in (known.equal(base), known.below(base), known.at_most(base), known.within(base),
                          known.next_one(base), known.power(base, -2)):
                self.assertEqual(one_way(table), OneWay())
            for width in range(4):
                self.assertEqual(one_way(known.ones(base, width)), OneWay())
            self.assertEqual(one_way(known.number_table(base)), TwoWays(("11",)))
            self.assertEqual(one_way(known.count_table(base, "1")), TwoWays(("11",)))
        for name, base, scheme, _, _ in known_schemes():
            for plane in scheme:
                for table in (plane.change, plane.question):
                    if name not in ("slope", "halves"):
                        self.assertTrue(one_way(table))
                    self.assert_paper(table, 2)

    def test_edges(self):
        for width in range(4):
            letter = "0" * width
            for table in (Table.of(2, width, "e"), Table.of(2, width, "e", e=1), chain(3, 2, width),
                          Table.of(2, width, "e", ("e", letter, 1, "f"), ("e", letter, 1, "g")),
                          Table.of(2, width, "e", ("e", letter, 1, "f"), ("e", letter, 1, "g"), f=1),
                          Table.of(2, width, "e", ("e", letter, 1, "f"), ("e", letter, 0, "g"), f=1, g=1),
                          Table.of(2, width, "e", ("a", letter, 1, "f"), ("a", letter, 1, "g"), f=1, g=1)):
                self.assertEqual(one_way(table), OneWay())
            two = Table.of(2, width, "e", ("e", letter, 1, "f"), ("e", letter, -1, "g"), f=1, g=1)
            self.assertEqual(one_way(two), TwoWays(told_of((letter,), width)))
        self.assertEqual(one_way(table=dead_end()), OneWay())

    def test_ways_that_part_and_meet_again(self):
        steps = [("s", "0", 1, "t"), ("s", "0", 1, "u"), ("t", "1", 1, "v"), ("u", "1", -1, "v"), ("v", "0", 1, "w"),
                 ("w", "1", 2, "w")]
        table = Table.of(2, 1, "s", *steps, w=1)
        self.assertEqual(one_way(table), TwoWays(("010",)))
        self.assertEqual([table["010"], ways(table)["010"], ways(table)["01011"]], [0, 2, 2])
        self.assertEqual(one_way(table.with_end("s", 3)), TwoWays(("010",)))
        self.assertEqual(one_way(table.with_end("t", 1).with_end("u", 1)), TwoWays(("0",)))
        # Both ends are at one state, and cancel by their steps alone.
        self.assertEqual(one_way(table.with_step("v", "0", 0, "w")), OneWay())

    def test_the_first_words_among_those_of_one_length(self):
        """Two ways by 10 and by 011: the shorter word; by 10 and by 01: the first one."""
        fork = [("s", "1", 1, "t"), ("s", "1", 1, "u"), ("t", "0", 1, "z"), ("u", "0", 1, "z")]
        late = [("s", "0", 1, "p"), ("s", "0", 1, "q"), ("p", "1", 1, "p2"), ("q", "1", 1, "p2"), ("p2", "1", 1, "z")]
        self.assertEqual(one_way(Table.of(2, 1, "s", *fork, *late, z=1)), TwoWays(("10",)))
        self.assertEqual(one_way(Table.of(2, 1, "s", *fork, *late, z=1, p2=1)), TwoWays(("01",)))

    def test_more_than_100_digits(self):
        for one, other in ((19, 20), (13, 15), (9, 11), (9, 12), (1, 2)):
            due = [at for at in range(1, 400) if at % one == 0 and at % other == 0]
            for width in range(4):
                table = branched(one, other, 2, width)
                if due:
                    long = due[0]
                    self.assertEqual(one_way(table), TwoWays(long if width == 0 else ("0" * long,) * width))
        self.assertEqual(one_way(branched(19, 20)).words, ("0" * 380,))
        self.assertEqual(one_way(branched(4, 6, 3, 0)), TwoWays(12))
        self.assertEqual(one_way(branched(4, 6, 4, 3)).words, ("0" * 12,) * 3)
        odd = branched(4, 6).with_end("a3", 0).with_end("a0", 1)
        self.assertEqual(one_way(odd), OneWay())

    def test_tables_of_forty_states_in_time(self):
        begun = time.process_time()
        for base, width in ((2, 0), (2, 1), (2, 2), (3, 2), (4, 3)):
            for steps, ends, seed in itertools.product((45, 60, 100, 2000), (0, 1, 40), (1, 2)):
                table = crowded(base, width, 40, steps, ends, 20, seed)
                paper = one_way(table)
                if steps < 100:
                    self.assertIs(bool(paper), not has_two(table))
        for base, width in ((2, 0), (2, 1), (4, 3)):
            one_way(branched(19, 20, base, width))
        self.assertLess(time.process_time() - begun, 20)


class Cells(unittest.TestCase):
    def test_beside_all_cells(self):
        dice = random.Random(82)
        for trial in range(50):
            base = dice.choice((2, 2, 3, 4))
            scheme = Scheme(*[Plane(random_table(dice, base, 2, 3), random_table(dice, base, 2, 3))
                              for _ in range(dice.randint(1, 3))])
            before = snapshot(scheme)
            for length in range(4 if base == 2 else 3 if base == 3 else 2):
                words = words_of_length(base, length)
                for word in words:
                    for call, side in ((touched, "change"), (read_by, "question")):
                        due = [(at, cell) for at, plane in enumerate(scheme) for cell in words
                               if slow_at(getattr(plane, side), word, cell) != 0]
                        self.assertTrue(same(call(scheme, word), tuple(due)))
            self.assertTrue(same(snapshot(scheme), before))

    def test_by_hand(self):
        tree = tree_scheme()
        self.assertEqual(touched(tree, ""), ())
        self.assertEqual(touched(known.plain_scheme(3), ""), ((0, ""),))
        self.assertEqual(touched(tree, "010101"), ((0, "010101"), (0, "010111"), (0, "011111")))
        self.assertEqual(touched(tree, "010"), ((0, "010"), (0, "011")))
        self.assertEqual(read_by(tree, "110"), ((0, "011"), (0, "101")))
        both = known.tree_with_entries(2)
        self.assertEqual(touched(both, "010"), ((0, "010"), (0, "011"), (1, "010")))
        self.assertEqual(touched(entry="33", scheme=known.running_scheme(4)), ((0, "33"),))
        self.assertEqual(read_by(question="33", scheme=known.running_scheme(4)), ((0, "33"),))
        self.assertEqual(len(touched(known.running_scheme(4), "000000")), 4 ** 6)
        # Numbers that cancel are not there, although there are ways.
        gone = Table.of(2, 2, "s", ("s", "00", 1, "a"), ("s", "00", -1, "b"), ("s", "01", 5, "a"), a=4, b=4)
        self.assertEqual(touched(Scheme(Plane(gone, gone)), "0"), ((0, "1"),))
        self.assertEqual(touched(Scheme(*[tree[0]] * 8), "0"), tuple((at, "0") for at in range(8)))

    def test_6_and_7_digits(self):
        for base in (2, 3, 4):
            scheme = known.plain_scheme(base)
            for call in (touched, read_by):
                for length in range(7):
                    self.assertEqual(call(scheme, "1" * length), ((0, "1" * length),))
                for word in ("1" * 7, "0" * 100, "0" * 101, str(base), "0 ", "-"):
                    assert_raises(self, BadWord, [word], call, scheme, word)

    def test_what_is_refused(self):
        tree = tree_scheme()
        for call in (touched, read_by):
            for value in odd_values():
                if not isinstance(value, Scheme):
                    assert_raises(self, BadScheme, ["scheme"], call, value, "0")
                    assert_raises(self, BadScheme, ["scheme"], call, value, value)
                if not isinstance(value, str) or value not in ("", "0"):
                    assert_raises(self, BadWord, [value], call, tree, value)
        assert_order(self, touched, {"scheme": tree, "entry": "0"},
                     [({"scheme": tree[0]}, BadScheme, ["scheme"]), ({"entry": ("0",)}, BadWord, [("0",)])])
        assert_order(self, read_by, {"scheme": tree, "question": "0"},
                     [({"scheme": None}, BadScheme, ["scheme"]), ({"question": some_function}, BadWord, [some_function])])


class Loads(unittest.TestCase):
    def assert_load(self, scheme, most):
        for length in range(most + 1):
            words = words_of_length(scheme.base, length)
            due = (sum(len(touched(scheme, word)) for word in words), sum(len(read_by(scheme, word)) for word in words))
            self.assertTrue(same(load(scheme, length), due))

    def test_beside_all_cells(self):
        dice = random.Random(83)
        tried = 0
        while tried < 40:
            base = dice.choice((2, 2, 3))
            scheme = Scheme(*[Plane(random_table(dice, base, 2, 3, WEIGHTS, 0.1),
                                    random_table(dice, base, 2, 3, WEIGHTS, 0.1)) for _ in range(dice.randint(1, 2))])
            if all(one_way(plane.change) and one_way(plane.question) for plane in scheme):
                tried += 1
                before = snapshot(scheme)
                self.assert_load(scheme, 3 if base == 2 else 2)
                self.assertTrue(same(snapshot(scheme), before))

    def test_known_schemes(self):
        for name, base, scheme, _, _ in known_schemes():
            if name not in ("slope", "halves"):
                self.assert_load(scheme, 4 if base == 2 else 2)
        for base in (2, 3, 4):
            assert_raises(self, BadPlane, ["question"], load, known.slope_scheme(base), 3)

    def test_lengths_0_and_100(self):
        for base in (2, 3, 4):
            many = base ** 100
            tree = (100 * (base - 1) * base ** 99, 100 * (base * (base - 1) // 2) * base ** 99)
            self.assertEqual(load(known.plain_scheme(base), 100), (many, many))
            self.assertEqual(load(known.running_scheme(base), 100), (many * (many + 1) // 2, many))
            self.assertEqual(load(known.tree_scheme(base), 100), tree)
            self.assertEqual(load(known.tree_with_entries(base), 100), (tree[0] + many, tree[1] + many))
            self.assertEqual([load(made(base), 0) for made in (known.plain_scheme, known.running_scheme,
                                                               known.tree_scheme, known.tree_with_entries)],
                             [(1, 1), (1, 1), (0, 0), (1, 1)])
        # In each length all entries are in the cell 1 .. 1, and in one cell for each digit; so questions read.
        self.assertEqual(load(length=100, scheme=known.halves_scheme()), (101 * 2 ** 100,) * 2)
        self.assertEqual(load(known.halves_scheme(), 0), (1, 1))

    def test_planes_that_have_two_ways(self):
        twice = known.number_table(2).placed(2, 1)
        good, change, question = (Plane(equal(2), at_most(2)), Plane(twice, equal(2)), Plane(below(2), twice))
        for planes, part in (((change,), "change"), ((question,), "question"), ((good, question, change), "question"),
                             ((good, good, change, question), "change"), ((Plane(twice, twice), question), "change"),
                             ((question, change), "question")):
            assert_raises(self, BadPlane, [part], load, Scheme(*planes), 0)
            assert_raises(self, BadPlane, [part], load, Scheme(*planes), 100)
        self.assertEqual(load(Scheme(good, good), 1), (4, 6))

    def test_what_is_refused(self):
        tree = tree_scheme()
        bad = Scheme(Plane(known.number_table(2).placed(2, 1), equal(2)))
        for value in odd_values():
            if not isinstance(value, Scheme):
                assert_raises(self, BadScheme, ["scheme"], load, value, 2)
                assert_raises(self, BadScheme, ["scheme"], load, value, value)
            if type(value) is not int or value not in range(101):
                assert_raises(self, BadNumber, [value], load, tree, value)
                assert_raises(self, BadNumber, [value], load, bad, value)
        for value in (-1, 101, 10 ** 40, True):
            assert_raises(self, BadNumber, [value], load, bad, value)
        assert_order(self, load, {"scheme": tree, "length": 2},
                     [({"scheme": tree[0]}, BadScheme, ["scheme"]), ({"length": 101}, BadNumber, [101])])

    def test_in_time(self):
        begun = time.process_time()
        loops = Scheme(*[Plane(all_loops(10 ** 40), all_loops(-1))] * 8)
        self.assertEqual(load(loops, 100), (8 * 4 ** 100,) * 2)
        single = Table.of(2, 2, "q0", *[(f"q{at}", letter, 3, f"q{(at * 3 + int(letter, 2)) % 40}")
                                        for at in range(40) for letter in letters_of(2, 2)],
                          **{f"q{at}": 7 for at in range(40)})
        self.assertEqual(load(Scheme(*[Plane(single, single)] * 8), 100), (8 * 4 ** 100,) * 2)
        self.assertLess(time.process_time() - begun, 10)


if __name__ == "__main__":
    unittest.main()
