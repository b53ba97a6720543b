"""The examples of the document, as they stand, in its order: later ones use what earlier ones imported."""

import unittest

from examples import run_examples

WORDS = '''
>>> from sumdigits.words import all_words, is_word, number_of, reading, word_of, words_of
>>> [number_of("0110", 2), number_of("", 3), word_of(5, 3, 4), word_of(0, 2, 0), list(all_words(2, 2)), is_word("012", 2), is_word("012", 3)]
[6, 0, '0012', '', ['00', '01', '10', '11'], False, True]
>>> [reading("01", "11"), reading("", ""), words_of(("01", "11"), 2), words_of((), 3)]
[('01', '11'), (), ('01', '11'), ('', '', '')]
>>> reading("01", "1")
raises Unlike('length')
>>> word_of(9, 3, 2)
raises BadNumber(9)
'''

TABLES = '''
>>> from sumdigits.tables import Table
>>> less = Table.of(2, 2, "e", ("e", "00", 1, "e"), ("e", "11", 1, "e"), ("e", "01", 1, "f"), ("f", "00", 1, "f"), ("f", "01", 1, "f"), ("f", "10", 1, "f"), ("f", "11", 1, "f"), f=1)
>>> [less["0110", "0111"], less["10", "01"], less["", ""], less.total(2), len(less), list(less), "10" in less, less.steps["e", "01"], less.ends]
[1, 0, 0, 6, 2, ['e', 'f'], True, {'f': 1}, {'f': 1}]
>>> size = Table.of(2, 1, "a", ("a", "0", 1, "a"), ("a", "1", 1, "a"), ("a", "1", 1, "b"), ("b", "0", 2, "b"), ("b", "1", 2, "b"), b=1)
>>> [size["1011"], size["000"], size.total(3), str(size), Table.read(str(size)) == size, (size * 3)["11"], (size - size)["101"]]
[11, 0, 28, '2 1 a a:0*1>a a:1*1>a a:1*1>b b:0*2>b b:1*2>b b=1', True, 9, 0]
>>> [(less + ~less)["01", "10"], (less * ~less)["01", "10"], (less >> less)["00", "11"], less.summed(1)["01"], less.summed(0)["01"], less.summed(0).summed(0).total(2)]
[1, 0, 2, 2, 1, 6]
>>> [less.placed(3, 2, 0)["11", "00", "01"], (size | size)["31"], size.placed(2, 1)["111", "010"], less.with_end("e", 1)["10", "10"], len(less.with_end("f", 0).trimmed())]
[1, 6, 2, 1, 1]
>>> less["0", "01"]
raises Unlike('length')
>>> less.summed(2)
raises BadPlace(2)
>>> Table.read("2 1 a a:2*1>a")
raises BadText(0, 3)
'''

KNOWN = '''
>>> from sumdigits.known import at_most, below, count_table, equal, next_one, number_table, power, tree_scheme, within
>>> [below(3)["02", "10"], at_most(2)["11", "11"], within(2)["0100", "0110"], next_one(2)["0111", "1000"], power(2, 3)["01", "01"], number_table(4)["123"], count_table(2, "1")["10110"]]
[1, 1, 1, 1, 9, 27, 3]
>>> [below(2).total(3), within(2).total(3), equal(4).total(2), next_one(3).total(2), count_table(2, "0").total(3)]
[28, 27, 16, 8, 12]
>>> tree = tree_scheme(2)
>>> [tree[0].change["0110", "0111"], tree[0].change["0110", "0110"], tree[0].change["0110", "0011"], tree[0].question["0110", "0011"], tree[0].question["0110", "0101"]]
[1, 1, 0, 1, 1]
>>> below(5)
raises BadBase(5)
'''

SPACES = '''
>>> from sumdigits.spaces import Rows, determinant
>>> rows = Rows.of(3, (1, 1, 0), (0, 2, 1), (2, 4, 1))
>>> [len(rows), list(rows), rows.made_of((1, 3, 1)), rows.made_of((1, 1, 1)), (0, 0, 0) in rows, [1, 1, 0] in rows]
[2, [(1, 1, 0), (0, 2, 1)], (1, (1, 1)), None, True, False]
>>> [Rows.of(2, (2, 0), (0, 3)).made_of((1, 1)), rows.more((0, 0, 5)) <= rows, rows <= rows.more((0, 0, 5)), determinant([(0, 1), (1, 1)]), determinant([[2, 4], [1, 2]]), determinant([])]
[(6, (3, 2)), False, True, -1, 0, 1]
>>> rows.more((1, 2))
raises BadNumber((1, 2))
'''

NOUGHTS = '''
>>> from sumdigits.noughts import Nought, Somewhere, nought, vector
>>> from sumdigits.look_noughts import shows_nought
>>> loops = [("b", "0", 1, "b"), ("b", "1", 1, "b"), ("c", "0", 1, "c"), ("c", "1", 1, "c")]
>>> gone = Table.of(2, 1, "a", ("a", "0", 1, "a"), ("a", "1", 1, "b"), ("a", "1", -1, "c"), *loops, b=1, c=1)
>>> [bool(nought(gone)), vector(gone, ("0", "1", "0")), nought(gone.with_end("c", 2)) == Somewhere(("1",), -1), nought(equal(2)) == Somewhere(("", ""), 1)]
[True, {'a': 0, 'b': 1, 'c': -1}, True, True]
>>> told = {(0, "0"): (1, (1, 0)), (0, "1"): (1, (0, 1)), (1, "0"): (1, (0, 1)), (1, "1"): (1, (0, 1))}
>>> [shows_nought(gone, Nought(((), ("1",)), told)), shows_nought(gone, Nought(((),), {(0, "0"): (1, (1,)), (0, "1"): (1, (0,))})), shows_nought(equal(2), Somewhere(("01", "01"), 1))]
[True, False, True]
>>> vector(gone, ("0", "2"))
raises BadLetter('2')
'''

ALIKE = '''
>>> from sumdigits.alike import Apart, alike, first_apart
>>> from sumdigits.look_alike import shows_alike
>>> [bool(alike(at_most(2) - equal(2), below(2))), alike(below(2), at_most(2)) == Apart(("", ""), 0, 1), alike(below(2), ~below(2)) == Apart(("0", "1"), 1, 0), shows_alike(below(2), at_most(2), Apart(("1", "1"), 0, 1))]
[True, True, True, True]
>>> first_apart(equal(3), [at_most(3) * ~at_most(3), equal(3) + equal(3) - equal(3), below(3)])
2
>>> alike(below(2), below(3))
raises Unlike('base')
'''

RANKS = '''
>>> from sumdigits.ranks import Rank, rank, shows_rank, value_at
>>> [rank(below(2)) == Rank(2, ((), ("01",)), ((), ("01",))), rank(gone) == Rank(0, (), ()), rank(equal(2) * 0).number, rank(below(2) + below(2)).number]
[True, True, 0, 2]
>>> [value_at(below(2), ("01",), ("00",)), shows_rank(below(2), Rank(1, (("01",),), ((),))), shows_rank(below(2), Rank(1, ((),), ((),)))]
[1, True, False]
'''

SCHEMES = '''
>>> from sumdigits.known import at_most, below, equal, tree_scheme
>>> from sumdigits.schemes import Plane, Scheme, row_of
>>> tree, own = tree_scheme(2), Scheme(Plane(equal(2), equal(2)))
>>> [row_of(tree[0].change, "010"), row_of(tree[0].question, "110"), row_of(equal(2), "01")]
[{'010': 1, '011': 1}, {'011': 1, '101': 1}, {'01': 1}]
>>> both = tree + own
>>> [len(both), both[1] == own[0], both.answers()["01", "10"], both.answers()["10", "10"], (~both).answers()["10", "01"], both == own + tree]
[2, True, 1, 1, 1, False]
>>> both[2]
raises NoPlane(2)
'''

JUDGED = '''
>>> from sumdigits.judged import Right, Wrong, judge, told_at
>>> from sumdigits.look_judged import shows_judged
>>> [bool(judge(tree, below(2))), judge(tree, at_most(2)) == Wrong("", "", 0, 1), bool(judge(both, at_most(2))), told_at(tree, "01", "10")]
[True, True, True, 1]
>>> up = Table(2, 2, "e", {("e", "00"): {"e": 1, "f": 1}, ("e", "11"): {"e": 1}, ("f", "01"): {"f": 1}, ("f", "11"): {"f": 1}}, {"e": 1, "f": 1})
>>> down = Table(2, 2, "e", {("e", "00"): {"e": 1}, ("e", "11"): {"e": 1}, ("e", "10"): {"f": 1}, ("f", "01"): {"f": 1}, ("f", "11"): {"f": 1}}, {"e": 1, "f": 1})
>>> single = Scheme(Plane(up, down))
>>> [judge(single, at_most(2)) == Wrong("0", "0", 2, 1), shows_judged(single, at_most(2), Wrong("0", "1", 2, 1)), shows_judged(tree, below(2), judge(tree, below(2))), shows_judged(tree, below(2), Right((), {}))]
[True, True, True, False]
'''

CUTS = '''
>>> from sumdigits.cuts import Torn, Whole, cut, lost, lost_at
>>> from sumdigits.look_cuts import shows_cut
>>> from sumdigits.known import halves_scheme, plain_scheme, tree_scheme
>>> tree, halves = tree_scheme(2), halves_scheme()
>>> [bool(cut(tree)), cut(halves) == Torn("0", "0", "1", 1), lost(halves)["0", "0", "1"], lost_at(tree, "01", "00", "11")]
[True, True, 1, 0]
>>> [shows_cut(tree, cut(tree)), shows_cut(halves, Torn("00", "10", "11", 1)), shows_cut(halves, Torn("00", "10", "11", 2)), shows_cut(tree, cut(halves))]
[True, True, False, False]
'''

GREATEST = '''
>>> from sumdigits.greatest import Covered, Uncovered, keeps_greatest
>>> from sumdigits.look_greatest import shows_greatest
>>> from sumdigits.known import at_most, below, equal
>>> [bool(keeps_greatest(tree, below(2))), keeps_greatest(tree, at_most(2)) == Uncovered("", "", False, True)]
[True, True]
>>> shows_greatest(tree, at_most(2), Uncovered("10", "10", False, True))
True
'''

WAYS = '''
>>> from sumdigits.tables import Table
>>> from sumdigits.ways import OneWay, TwoWays, load, one_way, read_by, touched, ways
>>> fork = Table(2, 1, "s", {("s", "0"): {"t": 3, "u": -3}, ("t", "1"): {"t": 1}, ("u", "1"): {"t": 1}}, {"t": 1})
>>> [one_way(below(2)) == OneWay(), one_way(fork) == TwoWays(("01",)), fork["01"], ways(fork)["01"], ways(fork)["0"]]
[True, True, 0, 2, 1]
>>> [touched(tree, "01"), read_by(tree, "11"), load(tree, 2), load(tree, 100)[0] == 100 * 2 ** 99]
[((0, '01'),), ((0, '01'), (0, '10')), (4, 4), True]
'''

PAIRED = '''
>>> from sumdigits.paired import beside, pair_word, parted
>>> both = beside(tree, tree)
>>> [pair_word("01", "11"), parted("13"), len(both), bool(judge(both, below(2) | below(2))), touched(both, "0")]
['13', ('01', '11'), 1, True, ((0, '0'),)]
'''

STORES = '''
>>> from sumdigits.known import at_most, below, tree_scheme, tree_with_entries
>>> from sumdigits.stores import GreatestStore, SumStore
>>> store = SumStore(tree_scheme(2), 2)
>>> store[0] = 5
>>> [store.add(2, 7), store.entries, store.cells(0), [store(question) for question in range(4)]]
[None, (5, 0, 7, 0), (5, 5, 7, 0), [0, 5, 5, 12]]
>>> [store.first_wrong(below(2)), store.first_wrong(at_most(2)), store.log, len(store)]
[None, 0, ('set 0 5', 'add 2 7'), 4]
>>> [store.exchange(tree_with_entries(2)), store.first_wrong(at_most(2)), store(2), store.cells(1), store.undo(), store(2)]
[None, None, 12, (5, 0, 7, 0), None, 5]
>>> [store.play("set 3 -1", "add 0 1"), list(store), store(3), store.undo(), store[0]]
[None, [6, 0, 7, -1], 13, None, 5]
>>> store.play("set 3 9", "add 4 1")
raises BadDeed(1)
>>> store.scheme = 5
raises BadScheme('scheme')
>>> store.scheme = tree_with_entries(2)
>>> [store.log[-1], store(0), store.undo(), store(0)]
['exchange', 5, None, 0]
>>> best = GreatestStore(tree_scheme(2), 2, 3)
>>> [best.play("set 0 5", "set 1 3"), best(1), best(2), best.cells(0), len(best)]
[None, 5, 5, (5, 5, 0), 3]
>>> best[0] = 4
raises BadNumber(4)
>>> best(3)
raises NoEntry(3)
'''

TEXTS = r'''
>>> from sumdigits.reader import read_book, read_nought, read_store
>>> from sumdigits.texts import write_book, write_nought, write_store
>>> [write_store(store).split("\n")[0], write_store(store).split("\n")[2], read_store(write_store(store)) == store, read_store(write_store(best)) == best]
['sums 2 4', '5 0 7 -1', True, True]
>>> from sumdigits.noughts import Nought
>>> paper = Nought(((), ("1",)), {(0, "0"): (1, (1, 0)), (0, "1"): (1, (0, 1)), (1, "0"): (1, (0, 1)), (1, "1"): (2, (0, 2))})
>>> [write_nought(paper).split("\n")[:3], write_nought(paper).split("\n")[6], read_nought(write_nought(paper)) == paper]
[['nought 1', 'reading', 'reading 1'], 'factor 1 1 2 0 2', True]
>>> [write_book({}), read_book(write_book({"b": below(2), "a": tree_scheme(2)})) == {"a": tree_scheme(2), "b": below(2)}]
['-', True]
>>> read_store("sums 2 x")
raises BadText(0, 2)
'''

DESK = '''
>>> from sumdigits.desk import Desk
>>> desk = Desk()
>>> text, wanted = str(tree_scheme(2)), str(below(2))
>>> desk.run("scheme t " + text, "table w " + wanted, "judge t w", "cut t", "tell w 01 11", "tell w -", "names", "open sums t 2", "set 0 5", "add 2 7", "ask 3", "entries", "back", "ask 3")
['ok', 'ok', 'right', 'whole', '1', 'refused Unlike', 't w', 'ok', 'ok', 'ok', '12', '5 0 7 0', 'ok', '5']
>>> [desk("nought w"), desk("drop x"), desk("judge w t"), desk("show w") == wanted, Desk()("ask 0")]
['somewhere 1 0 1', 'refused NoState', 'refused BadScheme', True, 'refused Nothing']
>>> desk("set 0")
raises BadCommand(2)
>>> desk("open more t 2")
raises BadCommand(1)
'''

IN_ORDER = [WORDS, TABLES, KNOWN, SPACES, NOUGHTS, ALIKE, RANKS, SCHEMES, JUDGED, CUTS,
            GREATEST, WAYS, PAIRED, STORES, TEXTS, DESK]


class Examples(unittest.TestCase):
    def test_in_the_order_of_the_document(self):
        names = {}
        for text in IN_ORDER:
            run_examples(self, text, names)


if __name__ == "__main__":
    unittest.main()
