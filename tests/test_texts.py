"""Texts of stores, books and papers of nought: both ways, and spoiled at each place."""

import random
import time
import unittest

from helpers import (
    assert_raises, below, crowded, letters_of, odd_values, random_table, ring, same, size_table, snapshot,
    some_function, tree_scheme)
from own_readers import own_book, own_nought, own_store, outcome, spoiled_texts
from sumdigits import known
from sumdigits.alike import Alike
from sumdigits.errors import BadPaper, BadScheme, BadStore, BadText, TooMany
from sumdigits.look_noughts import shows_nought
from sumdigits.noughts import Nought, Somewhere, nought
from sumdigits.reader import read_book, read_nought, read_store
from sumdigits.schemes import Plane, Scheme
from sumdigits.stores import GreatestStore, Store, SumStore
from sumdigits.tables import Table
from sumdigits.texts import write_book, write_nought, write_store
from test_judged import ring_of
from test_looks import silent
from test_stores import some_scheme


def some_store(dice):
    kind = dice.choice((SumStore, GreatestStore))
    base = dice.choice((2, 3, 4))
    length = dice.randint(0, 3 if base == 2 else 1)
    store = kind(some_scheme(dice, base, kind, 1), length, dice.choice((None, dice.randint(1, base ** length))))
    for at in range(len(store)):
        low = 0 if kind is GreatestStore else -9
        store[at] = dice.choice((0, dice.randint(low, 9), 10 ** 60 - 1, dice.randint(low, 9) * 10 ** 30))
    return store


def some_book(dice, most=4):
    names = dice.sample(["a", "b1", "b", "zz", "z0", "table", "scheme", "abcdefgh"], dice.randint(0, most))
    return {name: dice.choice((random_table(dice, dice.choice((2, 3, 4)), dice.randint(0, 2), 2),
                               some_scheme(dice, 2, SumStore, 2))) for name in names}


def some_paper(dice, most=4):
    """Any paper that can be written; it need not be right."""
    width = dice.choice((0, 0, 1, 1, 2, 3))
    letters = letters_of(4, width)
    many = dice.randint(1, most)
    readings = tuple(tuple(dice.choice(letters) for _ in range(dice.randint(0, 3))) for _ in range(many))
    factors = {}
    for _ in range(dice.randint(0, 5)):
        numbers = tuple(dice.choice((0, 1, -1, dice.randint(-99, 99), 10 ** 60 - 1)) for _ in range(many))
        factors[dice.randrange(many), dice.choice(letters)] = (dice.choice((1, 2, 10 ** 60 - 1)), numbers)
    return Nought(readings, factors)


class Ways(unittest.TestCase):
    """What the three kinds of texts have in common."""

    def assert_reads(self, read, own, text):
        due = outcome(own, text)
        given = outcome(read, text)
        self.assertTrue(same(given, due) or (given[0] == due[0] == "value" and self.alike(given[1], due[1])),
                        (text, given, due))
        return given

    def alike(self, one, other):
        if isinstance(one, Store):
            return type(one) is type(other) and same(snapshot(one)[:4], snapshot(other)[:4]) and one == other
        if isinstance(one, Nought):
            return same(vars(one), vars(other))
        return same(snapshot(one), snapshot(other))

    def check_spoiled(self, read, write, own, text, dice, most=12):
        told = {True: 0, False: 0}
        for other in spoiled_texts(text, dice, most):
            given = self.assert_reads(read, own, other)
            told[given[0] == "value"] += 1
            if given[0] == "value":
                self.assertEqual(write(given[1]), other)
        return told


class Stores(Ways):
    def test_both_ways(self):
        dice = random.Random(110)
        for trial in range(150):
            store = some_store(dice)
            before = snapshot(store)
            text = write_store(store)
            self.assertTrue(same(snapshot(store), before))
            lines = text.split("\n")
            word = "sums" if isinstance(store, SumStore) else "greatest"
            self.assertEqual(lines, [f"{word} {store.length} {len(store)}", str(store.scheme),
                                     " ".join(str(entry) for entry in store)])
            again = read_store(text)
            self.assertIs(type(again), type(store))
            self.assertTrue(again == store)
            self.assertEqual(again.log, ())
            for plane in range(len(store.scheme)):
                self.assertEqual(again.cells(plane), store.cells(plane))
            self.assertEqual([again(question) for question in range(len(again))],
                             [store(question) for question in range(len(store))])
            self.assertEqual(write_store(again), text)
            self.assertTrue(same(outcome(own_store, text)[1].entries, store.entries))
            again.add(0, 1)
            self.assertEqual(again.log, ("add 0 1",))

    def test_spoiled(self):
        dice = random.Random(111)
        told = {True: 0, False: 0}
        for trial in range(25):
            found = self.check_spoiled(read_store, write_store, own_store, write_store(some_store(dice)), dice)
            told = {key: told[key] + found[key] for key in told}
        self.assertGreater(told[True], 200)
        self.assertGreater(told[False], 2000)

    def test_by_hand(self):
        text = "sums 1 2\n2 2 e e:00*1>e e:11*1>e e=1 ; 2 2 e e:00*1>e e:11*1>e e=1\n5 -7"
        store = read_store(text=text)
        self.assertEqual([store.entries, store.cells(0), write_store(store=store)], [(5, -7), (5, -7), text])
        plane = text.split("\n")[1]
        for other, line, word in (
                ("", 0, 0), ("sums", 0, 1), ("sums 1", 0, 2), ("sums 1 2", 1, 0), ("sums 1 2 3", 0, 3),
                ("Sums 1 2", 0, 0), ("sums 9 2", 0, 1), ("sums -1 2", 0, 1), ("sums 01 2", 0, 1), ("sums 1 0", 0, 2),
                ("sums 1 -2", 0, 2), ("sums 1 02", 0, 2), ("sums 1 3", 1, 0), ("sums 1 2\n", 1, 0),
                ("sums 1 3\n2 2 e", 1, 3), (f"sums 1 2\n{plane}", 2, 0), (f"sums 1 3\n{plane}", 0, 2),
                (f"sums 1 3\n{plane}\nx", 0, 2), (f"sums 0 2\n{plane}\n1 2", 0, 2), (f"sums 0 2\n{plane} |", 1, 14),
                (f"sums 1 2\n{plane}\n", 2, 0), (f"sums 1 2\n{plane}\n5", 2, 1), (f"sums 1 2\n{plane}\n5 6 7", 2, 2),
                (f"sums 1 2\n{plane}\n5 06", 2, 1), (f"sums 1 2\n{plane}\n5 {'1' * 61}", 2, 1),
                (f"sums 1 2\n{plane}\n5 6\n", 3, 0), (f"sums 1 2\n{plane}\n5 6\nsums", 3, 0),
                (f"sums 1 2\n{plane}\n5 \n6", 2, 1), (f"greatest 1 2\n{plane}\n5 -6", 2, 1),
                (f"sums 8 {'9' * 60}\n{plane}\n1", 0, 2), (f"sums 8 {'9' * 61}\nx", 0, 2), ("sums 1 300\nx", 1, 0)):
            assert_raises(self, BadText, [line, word], read_store, other)
            self.assertEqual(outcome(own_store, other), ("error", BadText, [line, word]))
        self.assertEqual(read_store(f"sums 1 2\n{plane}\n5 {'1' * 60}")[1], int("1" * 60))
        self.assertEqual(read_store(f"sums 1 1\n{plane}\n0").entries, (0,))

    def test_other_errors_in_their_order(self):
        names = [f"a{at}" for at in range(41)]
        wide = "2 2 a0 " + " ".join(f"{name}=1" for name in sorted(names))
        plain = str(known.plain_scheme(2))
        assert_raises(self, TooMany, ["states", 40], read_store, f"sums 1 9\n{wide} ; {wide}\nx\ny")
        assert_raises(self, BadText, [1, 44], read_store, f"sums 1 9\n{wide} x ; {wide}")
        less = str(known.halves_scheme())
        assert_raises(self, BadScheme, ["weights"], read_store, f"greatest 1 2\n{less}\n1 2")
        assert_raises(self, BadText, [2, 1], read_store, f"greatest 1 2\n{less}\n1 -2")
        assert_raises(self, BadText, [3, 0], read_store, f"greatest 1 2\n{less}\n1 2\n")
        four = str(known.plain_scheme(4))
        assert_raises(self, TooMany, ["entries", 256], read_store, f"sums 5 3\n{four}\n1 2 3")
        assert_raises(self, BadText, [2, 2], read_store, f"sums 5 3\n{four}\n1 2")
        assert_raises(self, BadText, [0, 2], read_store, f"sums 5 1025\n{four}\n1 2")
        assert_raises(self, TooMany, ["entries", 256], read_store, f"sums 5 1024\n{four}\n" + " ".join(["1"] * 1024))
        assert_raises(self, BadScheme, ["weights"], read_store,
                      f"greatest 5 1\n{four.replace('*1', '*-1', 1)}\n3")
        self.assertEqual(len(read_store(f"sums 8 200\n{plain}\n" + " ".join(["1"] * 200))), 200)

    def test_any_values(self):
        for value in odd_values():
            if not isinstance(value, Store):
                assert_raises(self, BadStore, ["store"], write_store, value)
            for read in (read_store, read_book, read_nought):
                if not isinstance(value, str):
                    assert_raises(self, BadText, [0, 0], read, value)

    def test_great_entries(self):
        """More figures than a text can have are written all the same."""
        store = SumStore(tree_scheme(), 1)
        for many in (60, 61, 700, 4300, 5000):
            store.play(f"set 0 {'7' * many}", f"set 1 -{'7' * many}")
            text = write_store(store)
            self.assertEqual(text.split("\n")[2], f"{'7' * many} -{'7' * many}")
            if many == 60:
                self.assertTrue(read_store(text) == store)
            else:
                assert_raises(self, BadText, [2, 0], read_store, text)


class Books(Ways):
    def test_both_ways(self):
        dice = random.Random(112)
        for trial in range(100):
            book = some_book(dice)
            before = snapshot(book)
            text = write_book(book)
            self.assertTrue(same(snapshot(book), before))
            due = [f"{'table' if isinstance(book[name], Table) else 'scheme'} {name} {book[name]}" for name in sorted(book)]
            self.assertEqual(text, "\n".join(due) if book else "-")
            again = read_book(text)
            self.assertTrue(same(snapshot(again), before))
            self.assertEqual(again, book)
            again.clear()
            self.assertTrue(same(snapshot(book), before))
        self.assertEqual([write_book(book={}), read_book(text="-")], ["-", {}])

    def test_spoiled(self):
        dice = random.Random(113)
        told = {True: 0, False: 0}
        for trial in range(25):
            found = self.check_spoiled(read_book, write_book, own_book, write_book(some_book(dice)), dice)
            told = {key: told[key] + found[key] for key in told}
        self.assertGreater(told[True], 100)
        self.assertGreater(told[False], 2000)

    def test_by_hand(self):
        for text, line, word in (
                ("", 0, 0), ("- ", 0, 1), ("-\n", 1, 0), ("-\n-", 1, 0), ("--", 0, 0), ("table", 0, 1), ("table ", 0, 1),
                ("table A", 0, 1), ("table a", 0, 2), ("table a ", 0, 2), ("table a 2", 0, 3), ("table a 2 1 e x", 0, 5),
                ("table a 5", 0, 2), ("scheme a 2 2 e", 0, 5), ("scheme a 2 2 e ; 2 2 e x", 0, 9),
                ("scheme a 2 1 e ; 2 1 e", 0, 3), ("table abcdefghi 2 0 e", 0, 1), ("table 1a 2 0 e", 0, 1),
                ("table b 2 0 e\ntable a 2 0 e", 1, 1), ("table a 2 0 e\ntable a 2 0 e", 1, 1),
                ("table a 2 0 e\n", 1, 0), ("table a 2 0 e\n-", 1, 0), ("table a 2 0 e\n\ntable b 2 0 e", 1, 0),
                ("table a 2 0 e\nscheme a 2 2 e ; 2 2 e", 1, 1), ("tables a 2 0 e", 0, 0), (" table a 2 0 e", 0, 0)):
            assert_raises(self, BadText, [line, word], read_book, text)
            self.assertEqual(outcome(own_book, text), ("error", BadText, [line, word]))

    def test_50_and_51_names(self):
        table = Table.of(2, 0, "e", e=1)
        names = sorted(f"n{at}" for at in range(51))
        text = write_book({name: table for name in names[:50]})
        self.assertEqual(len(read_book(text)), 50)
        assert_raises(self, TooMany, ["names", 50], write_book, {name: table for name in names})
        assert_raises(self, BadPaper, ["book"], write_book, {**{name: table for name in names}, "A": table})
        for line in (f"table {names[50]} 2 0 e", "", "x", "-", f"table {names[0]} 2 0 e"):
            assert_raises(self, BadText, [50, 0], read_book, text + "\n" + line)
        assert_raises(self, BadText, [49, 1], read_book, text.replace(names[49], "A") + "\nx")

    def test_other_errors_at_their_lines(self):
        wide = "2 0 a0 " + " ".join(f"{name}=1" for name in sorted(f"a{at}" for at in range(41)))
        assert_raises(self, TooMany, ["states", 40], read_book, f"table a 2 0 e\ntable b {wide}\nx")
        assert_raises(self, BadText, [0, 5], read_book, f"table a 2 0 e x\ntable b {wide}")

    def test_any_values(self):
        table = size_table()
        for value in odd_values():
            if type(value) is not dict or value:
                assert_raises(self, BadPaper, ["book"], write_book, value)
            if not isinstance(value, (Table, Scheme)):
                assert_raises(self, BadPaper, ["book"], write_book, {"a": value})
                assert_raises(self, BadPaper, ["book"], write_book, {"a": table, "b": value, "c": tree_scheme()})
            if isinstance(value, (str, int, tuple, type(None))) and value != "x":
                if not (isinstance(value, tuple) and any(isinstance(part, list) for part in value)):
                    assert_raises(self, BadPaper, ["book"], write_book, {value: table})
        assert_raises(self, BadPaper, ["book"], write_book, {some_function: table})
        assert_raises(self, BadPaper, ["book"], write_book, [("a", table)])


class Noughts(Ways):
    def test_both_ways(self):
        dice = random.Random(115)
        for trial in range(200):
            paper = some_paper(dice)
            before = snapshot(vars(paper))
            text = write_nought(paper)
            self.assertTrue(same(snapshot(vars(paper)), before))
            letters = [letter for reading in paper.readings for letter in reading] + [key[1] for key in paper.factors]
            width = len(letters[0]) if letters else 0
            due = [f"nought {width}"] + [" ".join(["reading"] + [letter or "-" for letter in reading])
                                         for reading in paper.readings]
            for at, letter in sorted(paper.factors):
                divisor, numbers = paper.factors[at, letter]
                due.append(" ".join(["factor", str(at), letter or "-", str(divisor), *map(str, numbers)]))
            self.assertEqual(text, "\n".join(due))
            again = read_nought(text)
            self.assertIs(type(again), Nought)
            self.assertTrue(same(vars(again), vars(paper)))

    def test_papers_of_nought(self):
        for table in (size_table() - size_table(), silent(ring(40, 2, 0)), silent(ring(12, 3, 2)), below(2) - below(2)):
            paper = nought(table)
            again = read_nought(text=write_nought(paper=paper))
            self.assertTrue(again == paper)
            self.assertTrue(shows_nought(table, again))

    def test_spoiled(self):
        dice = random.Random(116)
        told = {True: 0, False: 0}
        for trial in range(40):
            found = self.check_spoiled(read_nought, write_nought, own_nought, write_nought(some_paper(dice)), dice, 8)
            told = {key: told[key] + found[key] for key in told}
        self.assertGreater(told[True], 500)
        self.assertGreater(told[False], 2000)

    def test_by_hand(self):
        for text, line, word in (
                ("", 0, 0), ("nought", 0, 1), ("nought 4", 0, 1), ("nought -1", 0, 1), ("nought 00", 0, 1),
                ("nought 0", 1, 0), ("nought 0 0", 0, 2), ("nought 0\n", 1, 0), ("nought 0\nfactor 0 - 1 1", 1, 0),
                ("nought 1\nreading", 0, 1), ("nought 1\nreading\nreading", 0, 1), ("nought 2\nreading\nx", 2, 0),
                ("nought 0\nreading ", 1, 1), ("nought 0\nreading 0", 1, 1), ("nought 1\nreading -", 1, 1),
                ("nought 1\nreading 4", 1, 1), ("nought 1\nreading 0 00", 1, 2), ("nought 0\nreading\n", 2, 0),
                ("nought 0\nreading\nfactor", 2, 1), ("nought 0\nreading\nfactor 1 - 1 1", 2, 1),
                ("nought 0\nreading\nfactor -1 - 1 1", 2, 1), ("nought 0\nreading\nfactor 0", 2, 2),
                ("nought 0\nreading\nfactor 0 0 1 1", 2, 2), ("nought 0\nreading\nfactor 0 -", 2, 3),
                ("nought 0\nreading\nfactor 0 - 0 1", 2, 3), ("nought 0\nreading\nfactor 0 - -1 1", 2, 3),
                ("nought 0\nreading\nfactor 0 - 1", 2, 4), ("nought 0\nreading\nfactor 0 - 1 1 1", 2, 5),
                ("nought 0\nreading\nfactor 0 - 1 01", 2, 4), (f"nought 0\nreading\nfactor 0 - 1 {'1' * 61}", 2, 4),
                ("nought 0\nreading\nfactor 0 - 1 1\nfactor 0 - 1 1", 3, 2),
                ("nought 0\nreading\nfactor 0 - 1 1\nreading", 3, 0),
                ("nought 1\nreading\nreading 1\nfactor 1 0 1 1 1\nfactor 0 1 1 1 1", 4, 1),
                ("nought 1\nreading\nreading 1\nfactor 1 1 1 1 1\nfactor 1 0 1 1 1", 4, 2),
                ("nought 1\nreading\nreading 1\nfactor 0 1 1 1 1\nfactor 1 0 1 1", 4, 5)):
            assert_raises(self, BadText, [line, word], read_nought, text)
            self.assertEqual(outcome(own_nought, text), ("error", BadText, [line, word]))
        self.assertEqual(read_nought("nought 0\nreading - -"), Nought((("", ""),), {}))
        self.assertEqual(read_nought("nought 0\nreading"), Nought(((),), {}))
        self.assertEqual(read_nought("nought 1\nreading\nfactor 0 3 1 0"), Nought(((),), {(0, "3"): (1, (0,))}))
        self.assertEqual(write_nought(Nought(((),), {(0, ""): (1, (-2,))})), "nought 0\nreading\nfactor 0 - 1 -2")

    def test_40_and_41_readings(self):
        for width in (0, 1):
            letter = "-" if width == 0 else "2"
            text = f"nought {width}" + f"\nreading {letter}" * 40
            paper = read_nought(text)
            self.assertEqual([len(paper.readings), write_nought(paper)], [40, text])
            for more in (f"\nreading {letter}", "\nreading", "\nreading x", "\nx"):
                assert_raises(self, BadText, [41, 0], read_nought, text + more)
            assert_raises(self, BadPaper, ["nought"], write_nought, Nought(paper.readings + ((),), {}))
        long = Nought((("2",) * 300,), {})
        self.assertEqual(read_nought(write_nought(long)), long)

    def test_any_values(self):
        good = {(0, "0"): (1, (1,)), (0, "1"): (1, (0,))}
        for value in odd_values():
            if not isinstance(value, Nought):
                assert_raises(self, BadPaper, ["nought"], write_nought, value)
            others = [Nought(value, good), Nought((value,), good), Nought(((value,),), good),
                      Nought(((),), {**good, (0, "1"): value}), Nought(((),), {(0, "0"): (value, (1,))}),
                      Nought(((),), {(0, "0"): (1, value)}), Nought(((),), {(0, "0"): (1, (value,))}),
                      Nought((("0",), (value,)), {})]
            if value != {}:
                others.append(Nought(((),), value))
            if isinstance(value, (str, int, type(None))):
                others += [Nought(((),), {value: (1, (1,))}), Nought(((),), {(value, "0"): (1, (1,))}),
                           Nought((("0",),), {(0, value): (1, (1,))})]
            for paper in others:
                due = own_paper(paper)
                if due:
                    self.assertTrue(same(vars(read_nought(write_nought(paper))), vars(paper)))
                else:
                    assert_raises(self, BadPaper, ["nought"], write_nought, paper)

    def test_what_cannot_be_written(self):
        good = {(0, "0"): (1, (1,))}
        for readings, factors in (
                ((), {}), ([()], {}), ((["0"],), {}), ((("0",), ("00",)), {}), ((("4",),), {}), ((("0000",),), {}),
                ((("",), ("0",)), {}), (((), ("0",)), {(0, ""): (1, (1, 1))}), (((),), {(0, "0"): (1, (1,)), (0, "00"): (1, (1,))}),
                (((),), {(1, "0"): (1, (1,))}), (((),), {(-1, "0"): (1, (1,))}), (((),), {(False, "0"): (1, (1,))}),
                (((),), {(0, "0", 0): (1, (1,))}), (((),), {"00": (1, (1,))}), (((),), {(0, "0"): (0, (1,))}),
                (((),), {(0, "0"): (-1, (1,))}), (((),), {(0, "0"): (True, (1,))}), (((),), {(0, "0"): (1, (True,))}),
                (((),), {(0, "0"): (1, (1, 1))}), (((),), {(0, "0"): (1, ())}), (((),), {(0, "0"): [1, (1,)]}),
                (((),), {(0, "0"): (1, [1])}), (((),), {(0, "0"): (1, (1,), 1)}), (((),), list(good.items())),
                (((),) * 41, {})):
            self.assertFalse(own_paper(Nought(readings, factors)))
            assert_raises(self, BadPaper, ["nought"], write_nought, Nought(readings, factors))
        for paper in (Alike(((),), good), Somewhere(((),), good), (((),), good)):
            assert_raises(self, BadPaper, ["nought"], write_nought, paper)

    def test_great_numbers(self):
        for many in (60, 61, 4299, 4300, 4301, 5000):
            great = 10 ** (many - 1)
            text = write_nought(Nought(((),), {(0, "0"): (great, (-great,))}))
            figures = "1" + "0" * (many - 1)
            self.assertEqual(text, f"nought 1\nreading\nfactor 0 0 {figures} -{figures}")
            if many > 60:
                assert_raises(self, BadText, [2, 3], read_nought, text)
            else:
                self.assertEqual(read_nought(text).factors, {(0, "0"): (great, (-great,))})


def own_paper(paper):
    """Whether a Nought can be written."""
    readings, factors = paper.readings, paper.factors
    if type(readings) is not tuple or not 1 <= len(readings) <= 40 or type(factors) is not dict:
        return False
    if any(type(reading) is not tuple for reading in readings):
        return False
    if any(type(key) is not tuple or len(key) != 2 for key in factors):
        return False
    letters = [letter for reading in readings for letter in reading] + [key[1] for key in factors]
    if any(type(letter) is not str or len(letter) > 3 or not set(letter) <= set("0123") for letter in letters):
        return False
    if len({len(letter) for letter in letters}) > 1:
        return False
    for (at, _), factor in factors.items():
        if type(at) is not int or not 0 <= at < len(readings) or type(factor) is not tuple or len(factor) != 2:
            return False
        if type(factor[0]) is not int or factor[0] < 1 or type(factor[1]) is not tuple:
            return False
        if len(factor[1]) != len(readings) or any(type(number) is not int for number in factor[1]):
            return False
    return True


class Times(unittest.TestCase):
    def test_in_time(self):
        begun = time.process_time()
        table = crowded(4, 3, 40, 2000, 5, 20)
        scheme = Scheme(*[Plane(crowded(2, 2, 40, 2000, 5, 20, at), ring_of(40)) for at in range(3)])
        book = {f"n{at}": scheme if at % 10 == 0 else table for at in range(50)}
        self.assertEqual(read_book(write_book(book)), book)
        store = SumStore(scheme, 8)
        store.play(*[f"set {at} {10 ** 59 + at}" for at in range(256)])
        self.assertTrue(read_store(write_store(store)) == store)
        paper = nought(silent(ring(40, 4, 3)))
        self.assertTrue(read_nought(write_nought(paper)) == paper)
        self.assertLess(time.process_time() - begun, 30)


if __name__ == "__main__":
    unittest.main()
