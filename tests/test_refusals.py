"""What is no table, no scheme, no base and no length is refused ahead of all else, by each function that takes one."""

import itertools
import unittest

from helpers import assert_raises, below, odd_values, size_table, some_function, tree_scheme
from sumdigits import known
from sumdigits.alike import alike, first_apart
from sumdigits.cuts import cut, lost, lost_at
from sumdigits.errors import BadBase, BadNumber, BadPlane, BadScheme, BadTable
from sumdigits.greatest import keeps_greatest
from sumdigits.judged import judge, told_at
from sumdigits.look_alike import shows_alike
from sumdigits.look_cuts import shows_cut
from sumdigits.look_greatest import shows_greatest
from sumdigits.look_judged import shows_judged
from sumdigits.look_noughts import shows_nought
from sumdigits.noughts import nought, vector
from sumdigits.paired import beside
from sumdigits.ranks import rank, shows_rank, value_at
from sumdigits.schemes import Plane, Scheme, row_of
from sumdigits.stores import GreatestStore, SumStore
from sumdigits.tables import Table
from sumdigits.ways import load, one_way, read_by, touched, ways
from sumdigits.words import all_words, is_word, number_of, word_of

TABLE, SCHEME, BASE, LENGTH, OTHER = "table", "scheme", "base", "length", "other"


def first_word(base, length):
    """all_words raises its errors when its first item is requested."""
    return next(all_words(base, length))


def total(length):
    return below(2).total(length)


def exchange(scheme):
    return SumStore(tree_scheme(), 1).exchange(scheme)


def first_wrong(wanted):
    return GreatestStore(tree_scheme(), 1).first_wrong(wanted)


# Each call with its parameters in order: a good value and what it stands for.
CALLS = [
    (is_word, {"value": ("0", OTHER), "base": (2, BASE)}),
    (number_of, {"word": ("0", OTHER), "base": (2, BASE)}),
    (word_of, {"number": (0, OTHER), "base": (2, BASE), "length": (1, LENGTH)}),
    (first_word, {"base": (2, BASE), "length": (1, LENGTH)}),
    (Table, {"base": (2, BASE), "width": (0, OTHER), "start": ("e", OTHER), "steps": ({}, OTHER), "ends": ({}, OTHER)}),
    (Table.of, {"base": (2, BASE), "width": (0, OTHER), "start": ("e", OTHER)}),
    (total, {"length": (1, LENGTH)}),
    (known.ones, {"base": (2, BASE), "width": (1, OTHER)}),
    (known.power, {"base": (2, BASE), "by": (1, OTHER)}),
    (known.count_table, {"base": (2, BASE), "digit": ("0", OTHER)}),
    (vector, {"table": (size_table(), TABLE), "reading": ((), OTHER)}),
    (nought, {"table": (size_table(), TABLE)}),
    (shows_nought, {"table": (size_table(), TABLE), "value": (None, OTHER)}),
    (alike, {"one": (below(2), TABLE), "other": (below(2), TABLE)}),
    (shows_alike, {"one": (below(2), TABLE), "other": (below(2), TABLE), "value": (None, OTHER)}),
    (first_apart, {"one": (below(2), TABLE), "others": ([], OTHER)}),
    (rank, {"table": (size_table(), TABLE)}),
    (value_at, {"table": (size_table(), TABLE), "ahead": ((), OTHER), "behind": ((), OTHER)}),
    (shows_rank, {"table": (size_table(), TABLE), "value": (None, OTHER)}),
    (row_of, {"table": (below(2), TABLE), "word": ("0", OTHER)}),
    (judge, {"scheme": (tree_scheme(), SCHEME), "wanted": (below(2), TABLE)}),
    (shows_judged, {"scheme": (tree_scheme(), SCHEME), "wanted": (below(2), TABLE), "value": (None, OTHER)}),
    (told_at, {"scheme": (tree_scheme(), SCHEME), "entry": ("0", OTHER), "question": ("0", OTHER)}),
    (cut, {"scheme": (tree_scheme(), SCHEME)}),
    (lost, {"scheme": (tree_scheme(), SCHEME)}),
    (lost_at, {"scheme": (tree_scheme(), SCHEME), "entry": ("0", OTHER), "question": ("0", OTHER),
               "cell": ("0", OTHER)}),
    (shows_cut, {"scheme": (tree_scheme(), SCHEME), "value": (None, OTHER)}),
    (keeps_greatest, {"scheme": (tree_scheme(), SCHEME), "wanted": (below(2), TABLE)}),
    (shows_greatest, {"scheme": (tree_scheme(), SCHEME), "wanted": (below(2), TABLE), "value": (None, OTHER)}),
    (ways, {"table": (below(2), TABLE)}),
    (one_way, {"table": (below(2), TABLE)}),
    (touched, {"scheme": (tree_scheme(), SCHEME), "entry": ("0", OTHER)}),
    (read_by, {"scheme": (tree_scheme(), SCHEME), "question": ("0", OTHER)}),
    (load, {"scheme": (tree_scheme(), SCHEME), "length": (1, LENGTH)}),
    (beside, {"one": (tree_scheme(), SCHEME), "other": (tree_scheme(), SCHEME)}),
    (SumStore, {"scheme": (tree_scheme(), SCHEME), "length": (1, OTHER), "size": (None, OTHER)}),
    (GreatestStore, {"scheme": (tree_scheme(), SCHEME), "length": (1, OTHER), "size": (None, OTHER)}),
    (exchange, {"scheme": (tree_scheme(), SCHEME)}), (first_wrong, {"wanted": (below(2), TABLE)})]
for made in (known.equal, known.below, known.at_most, known.within, known.next_one, known.number_table,
             known.plain_scheme, known.running_scheme, known.tree_scheme, known.tree_with_entries, known.slope_scheme):
    CALLS.append((made, {"base": (2, BASE)}))


def is_good(value, kind):
    if kind == TABLE:
        return isinstance(value, Table)
    if kind == SCHEME:
        return isinstance(value, Scheme)
    return type(value) is int and value in (range(2, 5) if kind == BASE else range(101))


def due_error(kind, name, value):
    if kind == TABLE:
        return BadTable, [name]
    if kind == SCHEME:
        return BadScheme, [name]
    return (BadBase if kind == BASE else BadNumber), [value]


def wrong_values(kind):
    more = {BASE: [0, 1, 5, -2, "2", 10 ** 40], LENGTH: [-1, 101, 10 ** 40, "1", (1,)]}
    return [value for value in odd_values() + more.get(kind, []) if not is_good(value, kind)]


class Refusals(unittest.TestCase):
    def test_one_at_a_time(self):
        for call, parameters in CALLS:
            good = {name: value for name, (value, _) in parameters.items()}
            spoiled = {name: value if kind != OTHER else some_function for name, (value, kind) in parameters.items()}
            for name, (_, kind) in parameters.items():
                if kind != OTHER:
                    for value in wrong_values(kind):
                        error, fields = due_error(kind, name, value)
                        assert_raises(self, error, fields, call, **{**good, name: value})
                        assert_raises(self, error, fields, call, *{**good, name: value}.values())
                        # Ahead of what is wrong with the other parameters.
                        assert_raises(self, error, fields, call, **{**spoiled, name: value})

    def test_two_at_once(self):
        for call, parameters in CALLS:
            good = {name: value for name, (value, _) in parameters.items()}
            chosen = [(name, kind) for name, (_, kind) in parameters.items() if kind != OTHER]
            for (one, kind), (other, further) in itertools.combinations(chosen, 2):
                for value, mate in itertools.product(wrong_values(kind), wrong_values(further)[::3]):
                    error, fields = due_error(kind, one, value)
                    assert_raises(self, error, fields, call, **{**good, one: value, other: mate})

    def test_planes(self):
        for value in wrong_values(TABLE):
            assert_raises(self, BadPlane, ["change"], Plane, value, below(2))
            assert_raises(self, BadPlane, ["change"], Plane, value, value)
            assert_raises(self, BadPlane, ["question"], Plane, below(2), value)


if __name__ == "__main__":
    unittest.main()
