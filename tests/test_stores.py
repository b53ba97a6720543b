"""Live stores beside a plain reckoning: entries, cells, answers, deeds, and what is refused."""

import itertools
import random
import time
import unittest

from helpers import (
    assert_order, assert_raises, at_most, below, crowded, equal, odd_values, random_table, same, snapshot, tree_scheme,
    words_of_length)
from sumdigits import known
from sumdigits.cuts import cut
from sumdigits.errors import (
    BadDeed, BadNumber, BadScheme, BadTable, BadWidth, NoEntry, NoPlane, Nothing, SumError, TooMany, Unlike)
from sumdigits.greatest import keeps_greatest
from sumdigits.judged import judge
from sumdigits.schemes import Plane, Scheme
from sumdigits.stores import GreatestStore, Store, SumStore
from sumdigits.tables import Table
from test_judged import all_loops
from test_known import known_schemes

ABOVE = (1, 1, 2, 7)
ANY = (-3, -1, 1, 1, 2, 10 ** 30)


class Plain:
    """A store that reckons all from the entries, by the tables at words."""

    def __init__(self, kind, scheme, length, size):
        self.kind, self.scheme, self.length = kind, scheme, length
        self.words = words_of_length(scheme.base, length)[:size]
        self.entries = [0] * len(self.words)
        self.known = {}

    def values(self, table):
        """What a table tells at all pairs of words, row by row."""
        key = str(table)
        if key not in self.known:
            self.known[key] = [[table[one, other] for other in self.words] for one in self.words]
        return self.known[key]

    def joined(self, pairs):
        if self.kind is SumStore:
            return sum(number * part for number, part in pairs)
        return max([part for number, part in pairs if number > 0], default=0)

    def cells(self, plane):
        values = self.values(self.scheme[plane].change)
        return tuple(self.joined([(row[at], entry) for row, entry in zip(values, self.entries)])
                     for at in range(len(self.words)))

    def answers(self):
        cells = [self.cells(at) for at in range(len(self.scheme))]
        return [self.joined([pair for plane, row in zip(self.scheme, cells)
                             for pair in zip(self.values(plane.question)[question], row)])
                for question in range(len(self.words))]

    def first_wrong(self, wanted):
        values = self.values(wanted)
        for question, answer in enumerate(self.answers()):
            if answer != self.joined([(row[question], entry) for row, entry in zip(values, self.entries)]):
                return question
        return None


def some_scheme(dice, base, kind, planes=2):
    weights = ANY if kind is SumStore else ABOVE
    return Scheme(*[Plane(random_table(dice, base, 2, 3, weights), random_table(dice, base, 2, 3, weights))
                    for _ in range(dice.randint(1, planes))])


def some_amount(dice, kind, present):
    above = dice.choice((0, 1, 1, 5, dice.randint(0, 99), 10 ** 59))
    if kind is GreatestStore:
        return present + above
    return dice.choice((above, -above, 0, present))


def all_of(store):
    """All that a store tells."""
    return snapshot(store), [store(question) for question in range(len(store))]


class Drawn(unittest.TestCase):
    def assert_like(self, store, plain, log):
        self.assertTrue(same(store.entries, tuple(plain.entries)))
        self.assertEqual(list(store), plain.entries)
        self.assertEqual([len(store), store.length], [len(plain.words), plain.length])
        self.assertIs(store.scheme, plain.scheme)
        for plane in range(len(plain.scheme)):
            self.assertTrue(same(store.cells(plane), plain.cells(plane)))
        self.assertTrue(same([store(question) for question in range(len(store))], plain.answers()))
        self.assertTrue(same([store[at] for at in range(len(store))], plain.entries))
        self.assertTrue(same(store.log, tuple(log)))

    def play(self, dice, kind, base, length, size, deeds):
        store, plain = kind(some_scheme(dice, base, kind), length, size), None
        plain = Plain(kind, store.scheme, length, size)
        log, ahead = [], []
        self.assert_like(store, plain, log)
        for _ in range(deeds):
            at = dice.randrange(len(store))
            now = (list(plain.entries), plain.scheme)
            turn = dice.choice(("set", "set", "add", "add", "play", "exchange", "undo", "wanted"))
            if turn == "set":
                amount = some_amount(dice, kind, store[at])
                store[at] = plain.entries[at] = amount
                log.append(f"set {at} {amount}")
            elif turn == "add":
                by = some_amount(dice, kind, 0)
                self.assertIsNone(store.add(at, by))
                plain.entries[at] += by
                log.append(f"add {at} {by}")
            elif turn == "play":
                by = some_amount(dice, kind, 0)
                self.assertIsNone(store.play(f"add {at} {by}"))
                plain.entries[at] += by
                log.append(f"add {at} {by}")
            elif turn == "exchange":
                scheme = some_scheme(dice, base, kind)
                if dice.random() < 0.5:
                    store.scheme = scheme
                else:
                    self.assertIsNone(store.exchange(scheme))
                plain.scheme = scheme
                log.append("exchange")
            elif turn == "undo" and log:
                self.assertIsNone(store.undo())
                plain.entries, plain.scheme = ahead.pop()
                log.pop()
            else:
                wanted = random_table(dice, base, 2, 2, ANY)
                self.assertTrue(same(store.first_wrong(wanted), plain.first_wrong(wanted)))
            if turn not in ("undo", "wanted"):
                ahead.append(now)
            self.assert_like(store, plain, log)

    def test_all_sizes(self):
        for kind in (SumStore, GreatestStore):
            dice = random.Random(100)
            for base, length in ((2, 0), (2, 1), (2, 2), (2, 3), (3, 0), (3, 1), (3, 2), (4, 0), (4, 1), (4, 2)):
                for size in [None, *range(1, base ** length + 1)]:
                    self.play(dice, kind, base, length, size, 4)

    def test_many_deeds(self):
        for kind in (SumStore, GreatestStore):
            dice = random.Random(101)
            for _ in range(12):
                base = dice.choice((2, 3, 4))
                length = dice.randint(0, 4 if base == 2 else 2)
                self.play(dice, kind, base, length, dice.choice((None, dice.randint(1, base ** length))), 25)

    def test_great_lengths(self):
        for kind in (SumStore, GreatestStore):
            dice = random.Random(102)
            for base, length, size in ((2, 8, 37), (2, 7, 70), (3, 5, 40), (4, 4, 29), (2, 5, 32), (2, 6, 51)):
                self.play(dice, kind, base, length, size, 3)
            self.play(dice, kind, 2, 8, 256, 1)

    def test_weights_of_all_kinds(self):
        """What is told to be first wrong, with wanted tables whose weights are below 0."""
        dice = random.Random(103)
        told = {None: 0}
        for trial in range(80):
            kind = dice.choice((SumStore, GreatestStore))
            scheme = some_scheme(dice, 2, kind, 1)
            store, plain = kind(scheme, 3), Plain(kind, scheme, 3, None)
            for at in range(8):
                store[at] = plain.entries[at] = dice.choice((0, 0, 1, 3))
            for wanted in (scheme.answers(), random_table(dice, 2, 2, 3, (-2, -1, 1, 1)), scheme.answers() * -1):
                due = plain.first_wrong(wanted)
                told[due] = told.get(due, 0) + 1
                before = all_of(store)
                self.assertTrue(same(store.first_wrong(wanted=wanted), due))
                self.assertTrue(same(all_of(store), before))
        self.assertGreater(told[None], 40)
        self.assertGreater(len(told), 5)


class Facts(unittest.TestCase):
    def fill(self, dice, store):
        for at in range(len(store)):
            store[at] = dice.randint(0, 9) if isinstance(store, GreatestStore) else dice.randint(-9, 9)
        return store

    def sizes(self, base, length, whole):
        return range(1, base ** length + 1) if whole else [None]

    def test_right_schemes(self):
        dice = random.Random(104)
        for name, base, scheme, _, _ in known_schemes():
            wanted = scheme.answers()
            self.assertTrue(judge(scheme, wanted))
            for length in range(5 if base == 2 else 3 if base == 3 else 2):
                for size in self.sizes(base, length, cut(scheme)):
                    self.assertIsNone(self.fill(dice, SumStore(scheme, length, size)).first_wrong(wanted))
        # What is torn answers wrongly in a store of as many cells as the number of the cell tells, or one more.
        torn = cut(known.halves_scheme())
        store = SumStore(known.halves_scheme(), 1, 1)
        store[0] = 1
        self.assertEqual([torn.cell, store.first_wrong(known.power(2, 2))], ["1", 0])

    def test_drawn_schemes(self):
        dice = random.Random(105)
        for kind, tells in ((SumStore, judge), (GreatestStore, keeps_greatest)):
            told = {True: 0, False: 0}
            for trial in range(60):
                base = dice.choice((2, 3))
                scheme = Scheme(*[Plane(random_table(dice, base, 2, 2, ABOVE), random_table(dice, base, 2, 2, ABOVE))
                                  for _ in range(dice.randint(1, 2))])
                wanted = scheme.answers() if trial % 2 else random_table(dice, base, 2, 2, ABOVE)
                paper = tells(scheme, wanted)
                told[bool(paper)] += 1
                if paper:
                    for length in range(4 if scheme.base == 2 else 3):
                        for size in self.sizes(scheme.base, length, kind is SumStore and cut(scheme)):
                            self.assertIsNone(self.fill(dice, kind(scheme, length, size)).first_wrong(wanted))
                elif scheme.base ** len(paper.entry) <= 256:
                    store = kind(scheme, len(paper.entry))
                    entry = int(paper.entry or "0", scheme.base)
                    question = int(paper.question or "0", scheme.base)
                    store[entry] = 1
                    self.assertEqual(store(question), int(paper.told))
                    self.assertLessEqual(store.first_wrong(wanted), question)
                    self.assertNotEqual(paper.told, paper.due)
            self.assertGreater(min(told.values()), 15)

    def test_a_greatest_store_of_a_covered_scheme(self):
        store = GreatestStore(tree_scheme(), 3)
        for at, amount in enumerate((3, 1, 4, 1, 5, 9, 2, 6)):
            store[at] = amount
        self.assertEqual([store(question) for question in range(8)], [0, 3, 3, 4, 4, 5, 9, 9])
        self.assertIsNone(store.first_wrong(below(2)))
        self.assertEqual(store.first_wrong(at_most(2)), 0)
        self.assertIsNone(store.first_wrong(below(2) * 5))
        # Cut at six entries, the tree is right as well.
        small = GreatestStore(tree_scheme(), 3, 6)
        small.play("set 0 3", "set 5 9", "set 2 4")
        self.assertEqual([list(small), small.cells(0), small.first_wrong(below(2))],
                         [[3, 0, 4, 0, 0, 9], (3, 3, 4, 4, 0, 9), None])

    def test_entries_from_the_size_on_play_no_part(self):
        store = SumStore(Scheme(Plane(all_loops(1), all_loops(1))), 3, 5)
        store.play("set 0 1", "set 4 10")
        self.assertEqual([store.cells(0), store(4)], [(11,) * 5, 55])
        self.assertEqual(SumStore(Scheme(Plane(all_loops(1), all_loops(1))), 3).cells(0), (0,) * 8)

    def test_many_planes(self):
        scheme = Scheme(*[Plane(equal(2) * (at + 1), at_most(2)) for at in range(8)])
        store = SumStore(scheme, 2)
        store[1] = 10
        self.assertEqual([store.cells(at) for at in range(8)], [(0, 10 * at + 10, 0, 0) for at in range(8)])
        self.assertEqual([store(question) for question in range(4)], [360, 360, 0, 0])
        best = GreatestStore(scheme, 2)
        best[1] = 10
        self.assertEqual([best.cells(7), best(1), best(2)], [(0, 10, 0, 0), 10, 0])


class New(unittest.TestCase):
    def test_ordinary(self):
        for kind in (SumStore, GreatestStore):
            for base, length, most in ((2, 0, 1), (2, 8, 256), (3, 5, 243), (4, 4, 256), (4, 0, 1)):
                scheme = known.tree_scheme(base)
                store = kind(scheme, length)
                self.assertTrue(same([len(store), store.length, store.entries, store.cells(0), store.log],
                                     [most, length, (0,) * most, (0,) * most, ()]))
                self.assertIs(store.scheme, scheme)
                for size in {1, most // 2 + 1, most}:
                    self.assertEqual([len(kind(scheme, length, size)), len(kind(size=size, length=length, scheme=scheme))],
                                     [size, size])
                self.assertEqual(len(kind(scheme, length, None)), most)

    def test_what_is_refused(self):
        tree = tree_scheme()
        for kind in (SumStore, GreatestStore):
            for value in odd_values() + [9, 10 ** 40]:
                if not isinstance(value, Scheme):
                    assert_raises(self, BadScheme, ["scheme"], kind, value, 2)
                    assert_raises(self, BadScheme, ["scheme"], kind, value, value, value)
                if type(value) is not int or value not in range(9):
                    assert_raises(self, BadNumber, [value], kind, tree, value)
                    assert_raises(self, BadNumber, [value], kind, tree, value, value)
                if value is not None and (type(value) is not int or value not in range(1, 5)):
                    assert_raises(self, BadNumber, [value], kind, tree, 2, value)
            for base, length in ((3, 6), (3, 8), (4, 5), (4, 8)):
                assert_raises(self, TooMany, ["entries", 256], kind, known.tree_scheme(base), length)
                assert_raises(self, TooMany, ["entries", 256], kind, known.tree_scheme(base), length, -1)
            for size in (0, -1, 5, 257, True, "1"):
                assert_raises(self, BadNumber, [size], kind, tree, 2, size)
            assert_raises(self, BadNumber, [2], kind, tree, 0, 2)
            assert_order(self, kind, {"scheme": tree, "length": 2, "size": 3},
                         [({"scheme": None}, BadScheme, ["scheme"]), ({"length": -1}, BadNumber, [-1]),
                          ({"size": 0}, BadNumber, [0])])
            assert_order(self, kind, {"scheme": known.tree_scheme(4), "length": 2, "size": 3},
                         [({"length": 5}, TooMany, ["entries", 256]), ({"size": 17}, BadNumber, [17])])

    def test_weights_below_0(self):
        twos = below(2)
        step, end = twos.with_step("far", "00", -1, "e"), twos.with_end("far", -1)
        for odd, other in itertools.product((step, end, twos * -1), (twos, at_most(2))):
            for planes in ((Plane(odd, other),), (Plane(other, odd),), (Plane(twos, twos), Plane(other, odd)),
                           (Plane(odd, other), Plane(twos, twos))):
                scheme = Scheme(*planes)
                assert_raises(self, BadScheme, ["weights"], GreatestStore, scheme, 2)
                assert_raises(self, BadScheme, ["weights"], GreatestStore, scheme, None, -5)
                assert_raises(self, BadScheme, ["weights"], GreatestStore, scheme, 9)
                self.assertEqual(len(SumStore(scheme, 2)), 4)
                store = GreatestStore(tree_scheme(), 2)
                store[1] = 5
                for change in (lambda: store.exchange(scheme), lambda: setattr(store, "scheme", scheme)):
                    before = all_of(store)
                    assert_raises(self, BadScheme, ["weights"], change)
                    self.assertTrue(same(all_of(store), before))

    def test_methods_stand_in_each_class(self):
        names = ("__len__ __iter__ __getitem__ __setitem__ __call__ __eq__ length entries scheme log cells add exchange "
                 "first_wrong play undo trial tried twin").split()
        for kind in (Store, SumStore, GreatestStore):
            for name in names:
                self.assertIn(name, vars(kind))
        self.assertTrue(issubclass(SumStore, Store) and issubclass(GreatestStore, Store))
        self.assertFalse(issubclass(SumStore, GreatestStore) or issubclass(GreatestStore, SumStore))

    def test_the_base_tells_the_same(self):
        for kind in (SumStore, GreatestStore):
            store = kind(tree_scheme(), 2, 3)
            Store.__setitem__(store, 1, 5)
            Store.add(store, 0, 2)
            self.assertEqual([Store.__len__(store), list(Store.__iter__(store)), Store.__getitem__(store, 1),
                              Store.__call__(store, 2), Store.length.fget(store), Store.entries.fget(store),
                              Store.scheme.fget(store), Store.log.fget(store)],
                             [len(store), list(store), store[1], store(2), store.length, store.entries, store.scheme,
                              store.log])
            Store.scheme.fset(store, known.plain_scheme(2))
            self.assertEqual([store.log, store(2), store(1)], [("set 1 5", "add 0 2", "exchange"), 0, 5])
            twin = Store.twin(store)
            self.assertIs(type(twin), kind)
            self.assertTrue(Store.__eq__(store, twin))
            twin.undo()
            self.assertFalse(Store.__eq__(store, twin))
            self.assertFalse(Store.__eq__(SumStore(tree_scheme(), 1), GreatestStore(tree_scheme(), 1)))
            self.assertFalse(Store.__eq__(twin, twin.entries))


class Refused(unittest.TestCase):
    """A call that raises an error changes nothing."""

    def stores(self):
        for kind in (SumStore, GreatestStore):
            store = kind(known.tree_with_entries(2), 2, 3)
            store[1] = 5
            store.add(0, 2)
            yield store

    def assert_refused(self, store, error, fields, call, *args):
        before = all_of(store)
        assert_raises(self, error, fields, call, *args)
        self.assertTrue(same(all_of(store), before))

    def test_entries_and_questions(self):
        for store in self.stores():
            for value in odd_values() + [3, 4, -1, 10 ** 40, slice(0, 2), (0, 1)]:
                for call in (store.__getitem__, store, lambda at: store.add(at, 1), lambda at: store.add(at, None),
                             lambda at: store.__setitem__(at, 9), lambda at: store.__setitem__(at, None)):
                    self.assert_refused(store, NoEntry, [value], call, value)

    def test_amounts(self):
        for store in self.stores():
            for value in odd_values():
                if type(value) is not int:
                    self.assert_refused(store, BadNumber, [value], store.__setitem__, 1, value)
                    self.assert_refused(store, BadNumber, [value], store.add, 1, value)
            if isinstance(store, GreatestStore):
                for value in (4, 0, -1, -10 ** 50):
                    self.assert_refused(store, BadNumber, [value], store.__setitem__, 1, value)
                for value in (-1, -10 ** 50):
                    self.assert_refused(store, BadNumber, [value], store.add, 1, value)
                    self.assert_refused(store, BadNumber, [value], store.add, 2, value)
            store[1] = 5
            store.add(1, 0)
            self.assertEqual(store.log[2:], ("set 1 5", "add 1 0"))
        store = SumStore(tree_scheme(), 2)
        store[1] = -10 ** 59
        store.add(1, -1)
        self.assertEqual(store[1], -10 ** 59 - 1)

    def test_planes(self):
        for store in self.stores():
            for value in odd_values() + [2, 3, -1]:
                self.assert_refused(store, NoPlane, [value], store.cells, value)
            self.assertEqual(store.cells(plane=1), (2, 5, 0))

    def test_schemes(self):
        for store in self.stores():
            for value in odd_values():
                if not isinstance(value, Scheme):
                    self.assert_refused(store, BadScheme, ["scheme"], store.exchange, value)
                    self.assert_refused(store, BadScheme, ["scheme"], lambda: setattr(store, "scheme", value))
            for base in (3, 4):
                self.assert_refused(store, Unlike, ["base"], store.exchange, known.plain_scheme(base))
                self.assert_refused(store, Unlike, ["base"], store.exchange, known.slope_scheme(base))
            if isinstance(store, GreatestStore):
                self.assert_refused(store, BadScheme, ["weights"], store.exchange, known.slope_scheme(2))
            store.exchange(scheme=known.plain_scheme(2))
            self.assertEqual([store.cells(0), store.log[-1]], [(2, 5, 0), "exchange"])

    def test_wanted_tables(self):
        for store in self.stores():
            for value in odd_values():
                if not isinstance(value, Table):
                    self.assert_refused(store, BadTable, ["wanted"], store.first_wrong, value)
            self.assert_refused(store, Unlike, ["base"], store.first_wrong, below(3))
            for width in (0, 1, 3):
                self.assert_refused(store, Unlike, ["base"], store.first_wrong, Table.of(3, width, "e"))
                self.assert_refused(store, BadWidth, [width], store.first_wrong, Table.of(2, width, "e"))
            self.assertIsNone(store.first_wrong(at_most(2)))

    def test_plays(self):
        wrong = [value for value in odd_values()] + [
            "set 0", "set 0 5 6", "set 0 05", "set 0 -0", "set 0 +5", "set  0 5", " set 0 5", "set 0 5 ", "set 00 5",
            "set 0 5\n", "Set 0 5", "exchange", "put 0 5", "add 0", "add", "set x 5", "set 0 x", "set - 5", "set 0 -",
            "set 0 1_0", "set 0 5.0", "add 0 \n", "undo", "set 0 1e3", "add 0 5 set 0 5", "set\t0 5"]
        for store in self.stores():
            for value in wrong:
                for at in range(4):
                    good = ["set 0 9", "add 2 0", "set 1 50"]
                    deeds = good[:at] + [value] + good[at:]
                    self.assert_refused(store, BadDeed, [at], store.play, *deeds)
                    self.assertIsNone(self.cause_of(store, deeds))
            for value, cause in (("add 3 1", NoEntry(3)), ("set -1 1", NoEntry(-1)), (f"set {10 ** 70} 1", NoEntry(10 ** 70)),
                                 ("set 3 -1", NoEntry(3))):
                self.check_cause(store, value, cause)
            if isinstance(store, GreatestStore):
                self.check_cause(store, "set 1 4", BadNumber(4))
                self.check_cause(store, "add 1 -1", BadNumber(-1))
                self.assert_refused(store, BadDeed, [1], store.play, "set 1 60", "set 1 59")
            self.assertIsNone(store.play())

    def cause_of(self, store, deeds):
        with self.assertRaises(BadDeed) as caught:
            store.play(*deeds)
        return caught.exception.__cause__

    def check_cause(self, store, value, cause):
        for deeds, at in (([value], 0), (["set 0 9", value, "set 5 5"], 1), (["set 0 9", "add 1 0", value, None], 2)):
            self.assert_refused(store, BadDeed, [at], store.play, *deeds)
            told = self.cause_of(store, deeds)
            self.assertIs(type(told), type(cause))
            self.assertTrue(same(vars(told), vars(cause)))


class Deeds(unittest.TestCase):
    def test_undo_one_by_one(self):
        for kind in (SumStore, GreatestStore):
            store = kind(tree_scheme(), 2)
            moments = [all_of(store)]
            for deed in (lambda: store.__setitem__(1, 5), lambda: store.add(0, 0), lambda: store.add(3, 10 ** 59),
                         lambda: store.exchange(known.tree_with_entries(2)), lambda: store.__setitem__(1, 5),
                         lambda: store.play("add 2 3"), lambda: setattr(store, "scheme", known.plain_scheme(2)),
                         lambda: store.play("set 0 7"), lambda: store.exchange(store.scheme)):
                self.assertIsNone(deed())
                moments.append(all_of(store))
            self.assertEqual(store.log, ("set 1 5", "add 0 0", f"add 3 {10 ** 59}", "exchange", "set 1 5", "add 2 3",
                                         "exchange", "set 0 7", "exchange"))
            for due in reversed(moments[:-1]):
                self.assertIsNone(store.undo())
                self.assertTrue(same(all_of(store), due))
            before = all_of(store)
            assert_raises(self, Nothing, [], store.undo)
            self.assertTrue(same(all_of(store), before))

    def test_each_deed_of_a_play_by_itself(self):
        for kind in (SumStore, GreatestStore):
            store = kind(tree_scheme(), 2)
            store.play("set 0 5", "set 0 5", "add 0 0", "add 1 7")
            self.assertEqual(store.log, ("set 0 5", "set 0 5", "add 0 0", "add 1 7"))
            for left in (3, 2, 1, 0):
                store.undo()
                self.assertEqual(len(store.log), left)
            assert_raises(self, Nothing, [], store.undo)
            store.add(0, 1)
            store.undo()
            store.play("set 3 1")
            self.assertEqual(store.log, ("set 3 1",))

    def test_elder_entries_of_greatest_stores_come_back(self):
        store = GreatestStore(known.running_scheme(2), 2)
        store.play("set 0 3", "set 2 9", "set 1 5")
        self.assertEqual(store.cells(0), (3, 5, 9, 9))
        store.undo()
        store.undo()
        self.assertEqual([store.entries, store.cells(0), store(3)], [(3, 0, 0, 0), (3, 3, 3, 3), 3])
        store[2] = 4
        self.assertEqual(store(3), 4)

    def test_500_and_501(self):
        calls = [lambda store: store.__setitem__(0, 5), lambda store: store.add(1, 1), lambda store: store.play("add 1 1"),
                 lambda store: store.exchange(tree_scheme()), lambda store: setattr(store, "scheme", tree_scheme())]
        for kind in (SumStore, GreatestStore):
            for call in calls:
                store = kind(tree_scheme(), 1)
                for _ in range(500):
                    call(store)
                self.assertEqual(len(store.log), 500)
                before = all_of(store)
                for at, other in enumerate(calls):
                    error, fields = (BadDeed, [0]) if at == 2 else (TooMany, ["deeds", 500])
                    assert_raises(self, error, fields, other, store)
                    self.assertTrue(same(all_of(store), before))
                self.check_order(store)
                store.undo()
                call(store)
                self.assertEqual(all_of(store)[0][4], before[0][4])
                for left in range(499, -1, -1):
                    store.undo()
                    self.assertEqual(len(store.log), left)
                assert_raises(self, Nothing, [], store.undo)

    def check_order(self, store):
        """The errors of the call come ahead of TooMany."""
        assert_raises(self, NoEntry, [2], store.__setitem__, 2, None)
        assert_raises(self, BadNumber, [None], store.__setitem__, 1, None)
        assert_raises(self, BadNumber, [True], store.add, 1, True)
        assert_raises(self, BadScheme, ["scheme"], store.exchange, None)
        assert_raises(self, Unlike, ["base"], store.exchange, known.plain_scheme(3))
        if isinstance(store, GreatestStore):
            assert_raises(self, BadScheme, ["weights"], store.exchange, known.halves_scheme())
        self.assertEqual(store.first_wrong(below(2)), None)

    def test_500_and_501_in_a_play(self):
        for kind in (SumStore, GreatestStore):
            store = kind(tree_scheme(), 1)
            before = all_of(store)
            with self.assertRaises(BadDeed) as caught:
                store.play(*["add 0 1"] * 501)
            self.assertEqual([caught.exception.at, vars(caught.exception.__cause__)],
                             [500, {"what": "deeds", "most": 500}])
            self.assertTrue(same(all_of(store), before))
            store.play(*["add 0 1"] * 500)
            self.assertEqual([store[0], len(store.log)], [500, 500])
            with self.assertRaises(BadDeed) as caught:
                store.play("add 5 1")
            self.assertIs(type(caught.exception.__cause__), NoEntry)
            store.undo()
            assert_raises(self, BadDeed, [1], store.play, "add 0 1", "add 0 1")
            self.assertEqual([store[0], len(store.log)], [499, 499])

    def test_numbers_of_any_length(self):
        """More figures than str and int take."""
        store = SumStore(tree_scheme(), 2)
        for many in (60, 61, 640, 661, 2000, 4299, 4300, 4301, 4321, 9000):
            for sign in ("", "-"):
                deed = f"set 1 {sign}1{'0' * (many - 2)}7"
                store.play(deed)
                due = 10 ** (many - 1) + 7
                self.assertEqual(store[1], -due if sign else due)
                self.assertEqual(store.log[-1], deed)
                store.add(1, store[1])
                self.assertEqual(store[1], 2 * (-due if sign else due))
                self.assertEqual(store.log[-1], f"add{deed[3:]}")

    def test_returned_values_belong_to_the_caller(self):
        store = SumStore(tree_scheme(), 2)
        store[0] = 5
        before = all_of(store)
        list(store).append(7)
        deeds = ["set 0 6"]
        store.play(*deeds)
        deeds.clear()
        store.undo()
        self.assertTrue(same(all_of(store), before))
        self.assertTrue(same([type(store.entries), type(store.cells(0)), type(store.log)], [tuple] * 3))


class Blocks(unittest.TestCase):
    def change(self, store):
        store[0] = 50
        store.add(1, 3)
        store.exchange(known.plain_scheme(2))
        store.play("set 2 100", "add 2 1")

    def test_trials(self):
        for kind in (SumStore, GreatestStore):
            store = kind(tree_scheme(), 2)
            store.play("set 0 5", "set 3 1")
            before = all_of(store)
            with store.trial() as held:
                self.assertIs(held, store)
                self.change(store)
                self.assertEqual([store.entries, len(store.log)], [(50, 3, 101, 1), 7])
            self.assertTrue(same(all_of(store), before))
            with store.trial():
                store.undo()
                store.undo()
                assert_raises(self, Nothing, [], store.undo)
            self.assertTrue(same(all_of(store), before))
            store.undo()
            self.assertEqual([store.entries, store.log], [(5, 0, 0, 0), ("set 0 5",)])

    def test_errors_go_on(self):
        for kind in (SumStore, GreatestStore):
            store = kind(tree_scheme(), 2)
            store[0] = 5
            before = all_of(store)
            for error in (NoEntry(7), KeyError("x"), ValueError("y"), KeyboardInterrupt(), SumError()):
                with self.assertRaises(type(error)) as caught:
                    with store.trial() as held:
                        self.change(held)
                        raise error
                self.assertIs(caught.exception, error)
                self.assertTrue(same(all_of(store), before))
                def work(held):
                    self.change(held)
                    raise error
                with self.assertRaises(type(error)) as caught:
                    store.tried(work)
                self.assertIs(caught.exception, error)
                self.assertTrue(same(all_of(store), before))

    def test_one_in_another(self):
        store = SumStore(tree_scheme(), 2)
        store[0] = 5
        with store.trial():
            store[1] = 7
            inner = all_of(store)
            with store.trial() as held:
                held.undo()
                held.undo()
                self.change(held)
                self.assertEqual(held.tried(lambda one: one.tried(lambda two: (self.change(two), two[0]))), (None, 50))
            self.assertTrue(same(all_of(store), inner))
            with self.assertRaises(NoEntry):
                with store.trial(), store.trial():
                    store[9] = 1
            self.assertTrue(same(all_of(store), inner))
        self.assertEqual([store.entries, store.log], [(5, 0, 0, 0), ("set 0 5",)])

    def test_a_block_begins_when_it_is_entered(self):
        store = SumStore(tree_scheme(), 2)
        block = store.trial()
        store[0] = 5
        for _ in range(2):
            with block:
                store[0] = 6
            self.assertEqual(store.entries, (5, 0, 0, 0))

    def test_tried(self):
        for kind in (SumStore, GreatestStore):
            store = kind(tree_scheme(), 2)
            store[0] = 5
            before = all_of(store)

            def work(held):
                self.assertIs(held, store)
                held[1] = 7
                return [held(2), held.log]

            self.assertEqual(store.tried(work), [12 if kind is SumStore else 7, ("set 0 5", "set 1 7")])
            self.assertTrue(same(all_of(store), before))
            self.assertIsNone(store.tried(work=lambda held: None))
            self.assertIs(store.tried(lambda held: held), store)

    def test_a_full_store(self):
        store = SumStore(tree_scheme(), 1)
        store.play(*["add 0 1"] * 500)
        with store.trial():
            assert_raises(self, TooMany, ["deeds", 500], store.add, 0, 1)
            for _ in range(500):
                store.undo()
            store.play(*["add 1 1"] * 500)
        self.assertEqual([store.entries, store.log], [(500, 0), ("add 0 1",) * 500])


class Twins(unittest.TestCase):
    def test_they_go_their_own_ways(self):
        for kind in (SumStore, GreatestStore):
            store = kind(known.tree_with_entries(2), 2, 3)
            store.play("set 0 5", "add 1 2")
            twin = store.twin()
            self.assertIs(type(twin), kind)
            self.assertIsNot(twin, store)
            self.assertTrue(same(all_of(twin), all_of(store)))
            self.assertTrue(twin == store)
            before = all_of(store)
            twin[2] = 9
            twin.exchange(tree_scheme())
            self.assertTrue(same(all_of(store), before))
            for _ in range(4):
                twin.undo()
            self.assertEqual([twin.entries, twin.log], [(0, 0, 0), ()])
            self.assertTrue(same(all_of(store), before))
            store.undo()
            store.add(2, 1)
            self.assertEqual([twin.entries, store.entries], [(0, 0, 0), (5, 0, 1)])
            with store.trial():
                store[0] = 70
                further = store.twin()
            self.assertEqual([further[0], store[0], further.log], [70, 5, ("set 0 5", "add 2 1", "set 0 70")])

    def test_equality(self):
        def made(kind=SumStore, scheme=tree_scheme(), length=2, size=None, entries=()):
            store = kind(scheme, length, size)
            for at, entry in enumerate(entries):
                store[at] = entry
            return store

        self.assertTrue(made() == made())
        self.assertFalse(made() != made())
        self.assertTrue(made(entries=(1, 2)) == made(entries=(1, 2)))
        again = made(entries=(5, 2))
        again.undo()
        again.undo()
        self.assertTrue(made() == again)
        self.assertTrue(made(size=4) == made())
        for other in (made(GreatestStore), made(length=1), made(length=3, size=4), made(size=3), made(entries=(1,)),
                      made(scheme=known.plain_scheme(2)), made(scheme=tree_scheme() + tree_scheme()),
                      made(scheme=~tree_scheme())):
            self.assertFalse(made() == other)
            self.assertTrue(made() != other)
            self.assertFalse(other == made())
            self.assertTrue(other == other.twin())
        for value in odd_values() + [(0, 0, 0, 0), [0, 0, 0, 0]]:
            self.assertFalse(made() == value)
            self.assertTrue(made(GreatestStore) != value)


class Times(unittest.TestCase):
    def test_256_entries(self):
        begun = time.process_time()
        dice = random.Random(106)
        for name, base, scheme, _, _ in known_schemes():
            length = {2: 8, 3: 5, 4: 4}[base]
            for kind in (SumStore, GreatestStore):
                if kind is SumStore or name not in ("halves", "slope"):
                    store = kind(scheme, length)
                    store.play(*[f"add {dice.randrange(len(store))} {dice.randint(0, 10 ** 9)}" for _ in range(500)])
                    self.assertEqual(len([store(question) for question in range(len(store))]), len(store))
                    if name != "slope":
                        self.assertIsNone(store.first_wrong(scheme.answers()))
                    for _ in range(500):
                        store.undo()
        self.assertLess(time.process_time() - begun, 30)

    def test_wide_tables(self):
        begun = time.process_time()
        scheme = Scheme(*[Plane(crowded(2, 2, 40, 2000, 5, 20, at), crowded(2, 2, 40, 2000, 5, 20, at + 9))
                          for at in range(2)])
        store = SumStore(scheme, 8)
        store.play(*[f"set {at} {at + 1}" for at in range(0, 256, 5)])
        for question in range(0, 256, 5):
            store(question)
        store.exchange(tree_scheme())
        store.exchange(scheme)
        self.assertEqual(store.log[-2:], ("exchange", "exchange"))
        self.assertLess(time.process_time() - begun, 20)

    def test_many_exchanges(self):
        begun = time.process_time()
        store = SumStore(known.running_scheme(2), 8)
        store.play(*[f"set {at} {at + 1}" for at in range(256)])
        for at in range(60):
            store.exchange(known.tree_with_entries(2) if at % 2 == 0 else known.running_scheme(2))
            self.assertEqual(store(255), 256 * 257 // 2)
        self.assertLess(time.process_time() - begun, 15)


if __name__ == "__main__":
    unittest.main()
