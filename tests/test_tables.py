"""Tables: how they are made, what they refuse, their attributes, their values and their changes."""

import random
import time
import unittest

from helpers import (
    assert_order, assert_raises, chain, crowded, is_trimmed, letters_of, odd_values, random_table, readings_of_length,
    ring, same, size_table, slow_at, slow_value, snapshot, some_function, tree_scheme, words_of_length)
from sumdigits.errors import (
    BadBase, BadLetter, BadName, BadNumber, BadTable, BadText, BadWeight, BadWidth, BadWord, NoState, Taken, TooMany,
    Unlike)
from sumdigits.tables import Table

NO_NAMES = [None, True, 5, "", "E", "1e", "e ", "e!", "ninesigns", "e\n", "\u00e9", "_e", ("e",), ["e"], {"e": 1},
            some_function, size_table(), tree_scheme()]
NO_INTEGERS = [None, True, False, "1", (1,), [1], {}, {"e": 1}, some_function, size_table(), tree_scheme()]
NO_WIDTHS = [None, True, False, -1, 4, "1", (1,), [1], {}, some_function, size_table()]
NO_BASES = [None, True, 0, 1, 5, "2", (2,), [2], {}, some_function, size_table()]

# wrong steps and ends of a table over base 2 of the width 1
NO_ENDS = [None, True, 5, "e", (), ("e",), [], ["e"], some_function, size_table(), {"e": True}, {"e": None},
           {"e": "1"}, {"E": 1}, {"ninesigns": 1}, {5: 1}, {None: 1}, {("e",): 1}, {"e": [1]}, {"f": 1, "": 1}, {"e": {}}]
NO_STEPS = [None, True, 5, "e", (), ("e", "0"), [], [("e", "0")], some_function, size_table(), {"e": {"e": 1}},
            {("e",): {"e": 1}}, {("e", "0", "e"): {"e": 1}}, {("E", "0"): {"e": 1}}, {("e", "2"): {"e": 1}},
            {("e", ""): {"e": 1}}, {("e", "00"): {"e": 1}}, {("e", 0): {"e": 1}}, {(5, "0"): {"e": 1}},
            {None: {"e": 1}}, {("e", "0"): {"e": 1}, ("f", "x"): {}},
            {("e", ("0",)): {"e": 1}}] + [{("e", "0"): ends} for ends in NO_ENDS]


def names(many):
    return [f"n{at}" for at in range(many)]


class Making(unittest.TestCase):
    def test_attributes(self):
        steps = {("e", "0"): {"g": 2, "e": -1}, ("f", "1"): {"h": 3}}
        table = Table(2, 1, "e", steps, {"i": 7})
        self.assertTrue(same([table.base, table.width, table.start, table.steps, table.ends, table.states],
                             [2, 1, "e", steps, {"i": 7}, ("e", "f", "g", "h", "i")]))
        named = Table(ends={"i": 7}, steps=steps, start="e", width=1, base=2)
        self.assertEqual(named, table)
        self.assertEqual([len(table), list(table), [state for state in table]], [5, list(table.states)] + [list(table)])

    def test_smallest_and_names(self):
        table = Table(4, 0, "a", {}, {})
        self.assertEqual([len(table), table.states, table.steps, table.ends, table.total(0)], [1, ("a",), {}, {}, 0])
        for name in ("a", "z", "a2345678", "zzzzzzzz", "a00"):
            self.assertEqual(Table(2, 0, name, {(name, ""): {name: 1}}, {name: 1}).states, (name,))

    def test_states_ascend(self):
        table = Table.of(2, 1, "b", ("b", "0", 1, "a10"), ("a2", "0", 1, "a"), z=1, b1=1)
        self.assertEqual(table.states, ("a", "a10", "a2", "b", "b1", "z"))

    def test_weights_of_0_are_left_out(self):
        steps = {("e", "0"): {"e": 0, "f": 1}, ("g", "0"): {"h": 0}, ("i", "1"): {}}
        table = Table(2, 1, "e", steps, {"j": 0, "e": 2})
        self.assertTrue(same([table.steps, table.ends, table.states],
                             [{("e", "0"): {"f": 1}}, {"e": 2}, ("e", "f")]))
        self.assertNotIn("1", table)

    def test_arguments_and_tables_do_not_touch(self):
        steps = {("e", "0"): {"e": 1}}
        ends = {"e": 1}
        table = Table(2, 1, "e", steps, ends)
        before = snapshot(table)
        steps["e", "0"]["f"] = 5
        steps["e", "1"] = {"e": 1}
        ends["e"] = 9
        self.assertTrue(same(snapshot(table), before))
        self.assertEqual(table["0"], 1)
        told = {"e": 3}
        made = Table.of(2, 1, "e", **told)
        told["e"] = 4
        self.assertEqual(made.ends, {"e": 3})

    def test_what_is_refused(self):
        for base in NO_BASES:
            assert_raises(self, BadBase, [base], Table, base, 1, "e", {}, {})
            assert_raises(self, BadBase, [base], Table.of, base, 1, "e")
        for width in NO_WIDTHS:
            assert_raises(self, BadWidth, [width], Table, 2, width, "e", {}, {})
            assert_raises(self, BadWidth, [width], Table.of, 2, width, "e")
        for name in NO_NAMES:
            assert_raises(self, BadName, [name], Table, 2, 1, name, {}, {})
            assert_raises(self, BadName, [name], Table.of, 2, 1, name)
        for steps in NO_STEPS:
            assert_raises(self, BadTable, ["steps"], Table, 2, 1, "e", steps, {})
        for ends in NO_ENDS:
            assert_raises(self, BadTable, ["ends"], Table, 2, 1, "e", {}, ends)

    def test_the_first_error_is_raised(self):
        wide = {(name, ""): {"e": 1} for name in names(40)}
        for steps, ends in (([], None), (wide, {"e": True})):
            assert_order(self, Table, {"base": 2, "width": 0, "start": "e", "steps": {}, "ends": {}},
                         [({"base": True}, BadBase, [True]), ({"width": 4}, BadWidth, [4]),
                          ({"start": "E"}, BadName, ["E"])])
            assert_order(self, lambda base, width, start, steps, ends: Table(base, width, start, steps, ends),
                         {"base": 2, "width": 1, "start": "e", "steps": {}, "ends": {}},
                         [({"base": None}, BadBase, [None]), ({"width": True}, BadWidth, [True]),
                          ({"start": 5}, BadName, [5]), ({"steps": steps or 7}, BadTable, ["steps"]),
                          ({"ends": ends or {"e": None}}, BadTable, ["ends"])])
        assert_raises(self, BadTable, ["ends"], Table, 2, 0, "e", wide, {"E": 1})
        assert_raises(self, BadTable, ["ends"], Table.of, 2, 0, "e", *[(name, "", 1, "e") for name in names(40)], E=1)

    def test_40_and_41_states(self):
        for many in (39, 40):
            ends = {name: 1 for name in names(many)}
            steps = {(name, "0"): {name: 1} for name in names(many)}
            rows = [("e", "0", 1, name) for name in names(many)]
            if many == 39:
                self.assertEqual(len(Table(2, 1, "e", {}, ends)), 40)
                self.assertEqual(len(Table(2, 1, "e", steps, {})), 40)
                self.assertEqual(len(Table.of(2, 1, "e", *rows)), 40)
                self.assertEqual(len(Table.of(2, 1, "e", **ends)), 40)
            else:
                assert_raises(self, TooMany, ["states", 40], Table, 2, 1, "e", {}, ends)
                assert_raises(self, TooMany, ["states", 40], Table, 2, 1, "e", steps, {})
                assert_raises(self, TooMany, ["states", 40], Table.of, 2, 1, "e", *rows)
                assert_raises(self, TooMany, ["states", 40], Table.of, 2, 1, "e", **ends)
        zeros = {**{name: 0 for name in names(100)}, "f": 1}
        self.assertEqual(len(Table(2, 1, "e", {("e", "0"): zeros}, zeros)), 2)

    def test_2000_and_2001_steps(self):
        many = 32
        steps = {(name, "00"): {goal: 1 for goal in names(many)} for name in names(many)}
        steps.update({(name, "01"): {goal: 1 for goal in names(many)} for name in names(30)})
        steps["n0", "10"] = {goal: 1 for goal in names(16)}
        self.assertEqual(sum(len(goals) for goals in steps.values()), 2000)
        table = Table(2, 2, "n0", steps, {})
        steps["n1", "11"] = {"n0": 0}
        self.assertEqual(Table(2, 2, "n0", steps, {}), table)
        steps["n1", "11"] = {"n0": 1}
        assert_raises(self, TooMany, ["steps", 2000], Table, 2, 2, "n0", steps, {})
        rows = [(state, letter, weight, goal)
                for (state, letter), goals in steps.items() for goal, weight in goals.items()]
        assert_raises(self, TooMany, ["steps", 2000], Table.of, 2, 2, "n0", *rows)
        self.assertEqual(Table.of(2, 2, "n0", *rows, ("n1", "11", -1, "n0")), table)
        assert_raises(self, TooMany, ["steps", 2000], table.with_step, "n1", "11", 1, "n0")
        self.assertEqual(table.with_step("n0", "00", 5, "n0").steps["n0", "00"]["n0"], 5)
        crowd = {("n0", "00"): {goal: 1 for goal in names(41)}, **steps}
        crowd["n9", "11"] = {goal: 1 for goal in names(41)}
        assert_raises(self, TooMany, ["states", 40], Table, 2, 2, "n0", crowd, {})

    def test_of(self):
        table = Table.of(3, 2, "e", ("e", "02", 5, "f"), ("e", "02", -2, "f"), ("e", "02", 1, "e"), f=4, e=0)
        self.assertTrue(same([table.steps, table.ends], [{("e", "02"): {"f": 3, "e": 1}}, {"f": 4}]))
        gone = Table.of(2, 1, "e", ("e", "0", 5, "f"), ("e", "0", -5, "f"), ("g", "0", 0, "h"), i=0)
        self.assertTrue(same([gone.steps, gone.ends, gone.states], [{}, {}, ("e",)]))
        self.assertEqual(Table.of(2, 1, "e", steps=2, ends=3).ends, {"steps": 2, "ends": 3})
        self.assertEqual(Table.of(base=2, width=0, start="e", e=5).total(9), 0)
        self.assertEqual(Table.of(2, 0, "e", e=5).total(0), 5)

    def test_of_refuses(self):
        good = ("e", "0", 1, "f")
        bad = [value for value in odd_values()]
        bad += [good[:3], good + (1,), list(good), ("E", "0", 1, "f"), ("e", "2", 1, "f"), ("e", "", 1, "f"),
                ("e", 0, 1, "f"), ("e", "0", True, "f"), ("e", "0", None, "f"), ("e", "0", "1", "f"),
                ("e", "0", 1, "F"), ("e", "0", 1, None), ("e", "0", 1, True), (["e"], "0", 1, "f"),
                ("e", "00", 1, "f"), ("e", "0", 1, ["f"]), ("e", "f", 1, "0")]
        for step in bad:
            assert_raises(self, BadTable, ["step"], Table.of, 2, 1, "e", step)
            assert_raises(self, BadTable, ["step"], Table.of, 2, 1, "e", good, step, E=1)
        for name in ("E", "ninesigns", "_e", "e_"):
            assert_raises(self, BadTable, ["ends"], Table.of, 2, 1, "e", good, **{name: 1})
        for value in NO_INTEGERS:
            assert_raises(self, BadTable, ["ends"], Table.of, 2, 1, "e", good, e=value)
        assert_raises(self, BadBase, [5], Table.of, 5, 9, 9, 9, E=9)
        assert_raises(self, BadWidth, [9], Table.of, 2, 9, 9, 9, E=9)
        assert_raises(self, BadName, [9], Table.of, 2, 1, 9, 9, E=9)

    def test_in(self):
        table = Table.of(3, 2, "e", ("e", "02", 5, "f"), ("f", "10", 5, "f"))
        for letter in letters_of(3, 2):
            self.assertIs(letter in table, letter in ("02", "10"))
        for value in odd_values() + ["e", "f", ("e", "02"), "0210"]:
            self.assertIs(value in table, False)
        self.assertIs("" in Table.of(2, 0, "e", ("e", "", 1, "e")), True)
        self.assertIs("" in Table.of(2, 0, "e", e=1), False)

    def test_equality(self):
        table = Table.of(2, 1, "e", ("e", "0", 1, "f"), f=1)
        self.assertEqual(table, Table.of(2, 1, "e", ("e", "0", 1, "f"), f=1))
        self.assertFalse(table != Table.of(2, 1, "e", ("e", "0", 1, "f"), f=1))
        for other in (Table.of(3, 1, "e", ("e", "0", 1, "f"), f=1), Table.of(2, 1, "f", ("e", "0", 1, "f"), f=1),
                      Table.of(2, 1, "e", ("e", "1", 1, "f"), f=1), Table.of(2, 1, "e", ("e", "0", 2, "f"), f=1),
                      Table.of(2, 1, "e", ("e", "0", 1, "f"), f=2), Table.of(2, 1, "e", ("e", "0", 1, "f"), e=1),
                      Table.of(2, 1, "e", ("e", "0", 1, "e"), f=1), Table.of(2, 1, "e", ("e", "0", 1, "f"))):
            self.assertNotEqual(table, other)
        self.assertNotEqual(Table.of(2, 1, "e"), Table.of(2, 2, "e"))
        for value in odd_values():
            self.assertFalse(table == value)
            self.assertTrue(table != value)

    def test_each_method_stands_in_the_class(self):
        for name in ("__init__ of __len__ __iter__ __contains__ tell __getitem__ total with_step with_end begun renamed "
                     "trimmed __eq__ __str__ read __add__ __sub__ __mul__ __rmul__ __neg__ __invert__ __rshift__ "
                     "__or__ summed placed").split():
            self.assertIn(name, vars(Table))
        self.assertIsInstance(vars(Table)["of"], staticmethod)
        self.assertIsInstance(vars(Table)["read"], classmethod)


class Values(unittest.TestCase):
    def test_by_all_ways(self):
        dice = random.Random(3)
        for trial in range(120):
            base, width = dice.choice((2, 3, 4)), dice.choice((1, 2, 3))
            table = random_table(dice, base, width)
            for length in range(4):
                words = [dice.choice(words_of_length(base, length)) for _ in range(width)]
                due = slow_at(table, *words)
                self.assertTrue(same([table.tell(*words), table[tuple(words)]], [due, due]))
                if width == 1:
                    self.assertEqual(table[words[0]], due)

    def test_totals(self):
        dice = random.Random(4)
        for trial in range(100):
            base, width = dice.choice((2, 3, 4)), dice.choice((0, 1, 2, 3))
            table = random_table(dice, base, width)
            for length in range(3 if width < 3 else 2):
                due = sum(slow_value(table, letters) for letters in readings_of_length(base, width, length))
                self.assertTrue(same(table.total(length), due))
        self.assertEqual(size_table().total(length=100), (2 ** 100 - 1) * 2 ** 99)
        self.assertEqual(Table.of(3, 3, "e", *[("e", letter, 1, "e") for letter in letters_of(3, 3)], e=1).total(100),
                         27 ** 100)
        for length in [None, True, False, -1, 101, 10 ** 40, "1", (1,), [1], {}, some_function, size_table()]:
            assert_raises(self, BadNumber, [length], size_table().total, length)

    def test_width_0(self):
        table = Table.of(2, 0, "e", ("e", "", 2, "e"), ("e", "", 1, "f"), e=1, f=5)
        self.assertEqual([table.total(0), table.total(1), table.total(2)], [1, 7, 14])
        for value in odd_values() + [(), ("",)]:
            assert_raises(self, BadWidth, [0], lambda: table[value])
            assert_raises(self, BadWidth, [0], table.tell, value)
        assert_raises(self, BadWidth, [0], table.tell)

    def test_a_word_alone(self):
        table = size_table()
        self.assertEqual([table["1011"], table[("1011",)], table.tell("1011"), table[""]], [11, 11, 11, 0])
        wide = Table.of(2, 2, "e", ("e", "01", 1, "e"), e=1)
        for word in ("", "0", "01", "x", "2"):
            assert_raises(self, Unlike, ["width"], lambda: wide[word])
        self.assertEqual(wide["00", "11"], 1)

    def test_numbers_of_words(self):
        for width in (1, 2, 3):
            table = Table.of(2, width, "e", ("e", "0" * width, 1, "e"), e=1)
            for many in range(6):
                words = ("x",) * many
                if many != width:
                    assert_raises(self, Unlike, ["width"], table.tell, *words)
                    assert_raises(self, Unlike, ["width"], lambda: table[words])
            for value in odd_values():
                if not isinstance(value, (str, tuple)):
                    assert_raises(self, Unlike, ["width"], lambda: table[value])

    def test_wrong_words(self):
        table = Table.of(2, 3, "e", ("e", "000", 1, "e"), e=1)
        for value in odd_values() + ["2", "0" * 101, "0 ", ["0"]]:
            if value not in ("", "0"):
                assert_raises(self, BadWord, [value], table.tell, "0", value, "")
                assert_raises(self, BadWord, [value], lambda: table["0", value, "2"])
                assert_raises(self, BadWord, [value], lambda: table["", "00", value])
        assert_raises(self, Unlike, ["length"], table.tell, "0", "0", "")
        assert_raises(self, Unlike, ["length"], table.tell, "", "0", "0")
        assert_raises(self, BadWord, ["2"], table.tell, "0", "", "2")
        assert_raises(self, BadWord, [None], lambda: size_table()[(None,)])
        assert_raises(self, BadWord, ["2"], lambda: size_table()["2"])
        assert_raises(self, BadWord, ["3"], Table.of(3, 1, "e").tell, "3")

    def test_words_of_100_digits_in_time(self):
        table = crowded(2, 2, 40, 2000, 40)
        begun = time.process_time()
        self.assertGreater(table["01" * 50, "0011" * 25], 10 ** 2000)
        self.assertGreater(table.total(100), 10 ** 2000)
        flat = crowded(4, 0, 40, 1600, 40)
        self.assertGreater(flat.total(100), 10 ** 2000)
        self.assertLess(time.process_time() - begun, 5)
        self.assertEqual(size_table()["1" * 100], 2 ** 100 - 1)
        assert_raises(self, BadWord, ["1" * 101], size_table().tell, "1" * 101)


class Changing(unittest.TestCase):
    def setUp(self):
        self.table = Table.of(2, 1, "e", ("e", "0", 1, "f"), ("f", "1", 2, "g"), ("f", "1", 3, "f"), g=4, f=5)

    def test_nothing_changes(self):
        other = size_table()
        before = snapshot((self.table, other))
        self.table.with_step("e", "0", 7, "f")
        self.table.with_end("g", 0)
        self.table.begun("f")
        self.table.renamed("f", "x")
        self.table.with_end("g", 0).trimmed()
        for sign in ("+", "-", "*", "|"):
            eval(f"one {sign} other", {"one": self.table, "other": other})
        for made in (-self.table, ~self.table, self.table * 3, 0 * self.table, self.table.summed(0),
                     self.table.placed(3, 1), self.table.placed(2, 0) >> other.placed(2, 1)):
            self.assertIsInstance(made, Table)
        self.table.tell("0")
        self.table.total(5)
        str(self.table)
        self.assertTrue(same(snapshot((self.table, other)), before))
        one = self.table
        one += other
        one *= 2
        self.assertTrue(same(snapshot((self.table, other)), before))
        self.assertIsNot(one, self.table)

    def test_with_step(self):
        more = self.table.with_step("e", "0", 7, "f")
        self.assertTrue(same(more.steps, {("e", "0"): {"f": 7}, ("f", "1"): {"g": 2, "f": 3}}))
        self.assertEqual(self.table.with_step(to="x", weight=-1, letter="1", state="y").states, ("e", "f", "g", "x", "y"))
        gone = self.table.with_step("f", "1", 0, "g").with_step("f", "1", 0, "f")
        self.assertTrue(same([gone.steps, gone.ends, gone.start, gone.base, gone.width],
                             [{("e", "0"): {"f": 1}}, {"g": 4, "f": 5}, "e", 2, 1]))
        self.assertEqual(self.table.with_step("x", "0", 0, "y"), self.table)
        assert_order(self, self.table.with_step, {"state": "e", "letter": "0", "weight": 1, "to": "e"},
                     [({"state": "E"}, BadName, ["E"]), ({"letter": "00"}, BadLetter, ["00"]),
                      ({"weight": True}, BadWeight, [True]), ({"to": None}, BadName, [None])])
        for value in NO_NAMES:
            assert_raises(self, BadName, [value], self.table.with_step, value, "0", 1, "e")
            assert_raises(self, BadName, [value], self.table.with_step, "e", "0", 1, value)
        for value in odd_values() + ["2", "00"]:
            if value not in ("0",):
                assert_raises(self, BadLetter, [value], self.table.with_step, "e", value, 1, "e")
        for value in NO_INTEGERS:
            assert_raises(self, BadWeight, [value], self.table.with_step, "e", "0", value, "e")

    def test_with_end(self):
        self.assertTrue(same(self.table.with_end("g", -9).ends, {"g": -9, "f": 5}))
        self.assertTrue(same(self.table.with_end(weight=1, state="x").states, ("e", "f", "g", "x")))
        self.assertTrue(same(self.table.with_end("f", 0).ends, {"g": 4}))
        self.assertEqual(self.table.with_end("x", 0), self.table)
        assert_order(self, self.table.with_end, {"state": "e", "weight": 1},
                     [({"state": 5}, BadName, [5]), ({"weight": "1"}, BadWeight, ["1"])])
        for value in NO_NAMES:
            assert_raises(self, BadName, [value], self.table.with_end, value, 1)
        for value in NO_INTEGERS:
            assert_raises(self, BadWeight, [value], self.table.with_end, "e", value)

    def test_begun(self):
        begun = self.table.begun("f")
        self.assertTrue(same([begun.start, begun.steps, begun.ends], ["f", self.table.steps, self.table.ends]))
        self.assertEqual(begun["1"], 2 * 4 + 3 * 5)
        self.assertEqual(self.table.begun(state="new").states, ("e", "f", "g", "new"))
        self.assertEqual(Table.of(2, 1, "e", f=1).begun("f").states, ("f",))
        for value in NO_NAMES:
            assert_raises(self, BadName, [value], self.table.begun, value)

    def test_changes_of_40_states(self):
        full = ring(40)
        assert_raises(self, TooMany, ["states", 40], full.begun, "new")
        assert_raises(self, TooMany, ["states", 40], full.with_end, "new", 1)
        assert_raises(self, TooMany, ["states", 40], full.with_step, "new", "0", 1, "r0")
        assert_raises(self, TooMany, ["states", 40], full.with_step, "r0", "0", 1, "new")
        self.assertEqual(full.with_end("new", 0), full)
        self.assertEqual(full.with_step("r0", "0", 0, "new"), full)
        self.assertEqual(len(full.renamed("r0", "new")), 40)
        self.assertEqual(len(full.begun("r7")), 40)

    def test_renamed(self):
        for old in self.table:
            made = self.table.renamed(old, "new45678")
            self.assertEqual(made.states, tuple(sorted({"e", "f", "g", "new45678"} - {old})))
            self.assertEqual(made.renamed("new45678", old), self.table)
            for word in words_of_length(2, 3):
                self.assertEqual(made[word], self.table[word])
        self.assertEqual(self.table.renamed(new="x", old="e").start, "x")
        for value in NO_NAMES + ["x", "0"]:
            assert_raises(self, NoState, [value], self.table.renamed, value, "E")
        for value in NO_NAMES:
            assert_raises(self, BadName, [value], self.table.renamed, "e", value)
        for value in self.table:
            assert_raises(self, Taken, [value], self.table.renamed, "e", value)

    def test_trimmed(self):
        table = Table.of(2, 1, "s", ("s", "0", 1, "a"), ("a", "0", 1, "b"), ("a", "1", 1, "dead"), ("dead", "0", 1, "dead"),
                         ("far", "0", 1, "b"), ("b", "1", 3, "a"), b=1, lost=2, far=1)
        self.assertEqual(table.trimmed(), Table.of(2, 1, "s", ("s", "0", 1, "a"), ("a", "0", 1, "b"), ("b", "1", 3, "a"),
                                                   b=1))
        none = Table.of(2, 1, "s", ("s", "0", 2, "s"), ("s", "1", 1, "a"), ("b", "1", 1, "s"), b=1)
        self.assertEqual(none.trimmed(), Table.of(2, 1, "s", ("s", "0", 2, "s")))
        self.assertEqual(Table.of(2, 1, "s", a=1).trimmed(), Table.of(2, 1, "s"))
        dice = random.Random(5)
        for trial in range(200):
            table = random_table(dice, 2, dice.choice((0, 1, 2)), 5, share=0.25)
            made = table.trimmed()
            self.assertTrue(is_trimmed(made))
            self.assertEqual(made.trimmed(), made)
            for key, goals in made.steps.items():
                for goal, weight in goals.items():
                    self.assertEqual(table.steps[key][goal], weight)
            for length in range(4):
                self.assertEqual(made.total(length), table.total(length))
            if is_trimmed(table):
                self.assertEqual(made, table)


class Texts(unittest.TestCase):
    def assert_bad_text(self, text, word):
        assert_raises(self, BadText, [0, word], Table.read, text)

    def test_str(self):
        table = Table.of(3, 2, "e", ("e", "10", -5, "f"), ("e", "02", 1, "e1"), ("e", "02", 1, "e"), ("b", "22", 7, "z"),
                         ("e1", "00", 1, "e"), f=-1, b=10 ** 40)
        self.assertEqual(str(table), "3 2 e b:22*7>z e:02*1>e e:02*1>e1 e:10*-5>f e1:00*1>e b=1" + "0" * 40 + " f=-1")
        self.assertEqual(str(Table.of(2, 0, "e", ("e", "", 4, "e"), e=1)), "2 0 e e:*4>e e=1")
        self.assertEqual(str(Table.of(4, 3, "start")), "4 3 start")

    def test_read_what_str_writes(self):
        dice = random.Random(6)
        for trial in range(200):
            table = random_table(dice, dice.choice((2, 3, 4)), dice.choice((0, 1, 2, 3)), 3)
            table = table.with_end("a2345678", dice.choice((10 ** 40 - 1, -10 ** 39, 1 - 10 ** 40)))
            made = Table.read(str(table))
            self.assertEqual(made, table)
            self.assertEqual(str(made), str(table))
        self.assertEqual(Table.read(text="2 1 e"), Table.of(2, 1, "e"))

    def test_no_strings(self):
        for value in odd_values():
            if not isinstance(value, str):
                self.assert_bad_text(value, 0)

    def test_spoiled_at_each_word(self):
        text = "2 1 e e:0*1>e e:0*-3>f e:1*2>a f:0*1>e a=1 f=-2"
        words = text.split(" ")
        self.assertEqual(str(Table.read(text)), text)
        spoils = {0: ["", "1", "5", "02", "x", "2 ", "-2", "+2"], 1: ["", "4", "-1", "01", "x"],
                  2: ["", "E", "1e", "ninesigns", "e=1", "e:0*1>e", "e\n"]}
        step = ["", ";", "|", "e", "e:", "e:0", "e:0*1", "e:0*1>", "e:0*1>E", "e:0*1>e>e", "e:0**1>e", "e::0*1>e",
                "E:0*1>e", ":0*1>e", "e:2*1>e", "e:*1>e", "e:00*1>e", "e:x*1>e", "e:0*0>e", "e:0*-0>e", "e:0*+1>e",
                "e:0*01>e", "e:0*1_0>e", "e:0*1.0>e", "e:0*>e", "e:0*->e", "e:0*--1>e", "e:0*1" + "0" * 40 +
                ">e", "e:0*-1" + "0" * 40 + ">e", "e:0*x>e", "e:0*1>ninesigns", "e:0*\u0661>e", "e0*1>e", "e:01>e",
                "e:0*1e", "e=0", "e=01", "e=", "=1", "e=+1", "e=1=1", "E=1", "e=-0", "e=1" + "0" * 40, "ninesigns=1"]
        for at in range(len(words)):
            for spoil in spoils.get(at, step):
                spoiled = words[:at] + spoil.split(" ") + words[at + 1:]
                self.assert_bad_text(" ".join(spoiled), at + spoil.count(" "))
        for many in range(3):
            self.assert_bad_text(" ".join(words[:many]), many if many else 0)
        self.assert_bad_text("", 0)
        self.assert_bad_text(" ", 0)
        self.assert_bad_text(" " + text, 0)
        self.assert_bad_text(text + " ", len(words))
        self.assert_bad_text(text.replace(" ", "  "), 1)
        self.assert_bad_text("2 1 e  e:0*1>e", 3)
        self.assert_bad_text(text + "\n", len(words) - 1)

    def test_what_does_not_ascend(self):
        for text, word in (("2 1 e e:0*1>e e:0*2>e", 4), ("2 1 e e:0*1>f e:0*1>e", 4), ("2 1 e e:1*1>e e:0*1>e", 4),
                           ("2 1 e f:0*1>e e:0*1>e", 4), ("2 1 e e=1 e=1", 4), ("2 1 e f=1 e=1", 4),
                           ("2 1 e e=1 e:0*1>e", 4), ("2 1 e a2:0*1>e a10:0*1>e", 4), ("2 1 e a:0*1>e a=1 f:0*1>e", 5)):
            self.assert_bad_text(text, word)
        self.assertEqual(len(Table.read("2 1 e a:0*1>e a1:0*1>e aa:0*1>e e:0*1>e")), 4)

    def test_40_and_41_figures(self):
        for figures in ("9" * 40, "-" + "9" * 40, "1" + "0" * 39):
            self.assertEqual(Table.read(f"2 1 e e:0*{figures}>e e={figures}").ends, {"e": int(figures)})
            self.assert_bad_text(f"2 1 e e:0*{figures}0>e e={figures}", 3)
            self.assert_bad_text(f"2 1 e e:0*{figures}>e e={figures}0", 4)
        long = Table.of(2, 1, "e", e=10 ** 40)
        self.assert_bad_text(str(long), 3)

    def test_too_many_comes_last(self):
        ends = [f"{name}=1" for name in sorted(f"n{at}" for at in range(41))]
        self.assertEqual(len(Table.read(" ".join(["2 1 n0"] + ends[:40]))), 40)
        assert_raises(self, TooMany, ["states", 40], Table.read, " ".join(["2 1 n0"] + ends))
        self.assert_bad_text(" ".join(["2 1 n0"] + ends + ["x"]), 44)
        self.assert_bad_text(" ".join(["2 1 N0"] + ends), 2)
        states = sorted(f"n{at}" for at in range(32))
        steps = [f"{state}:{letter}*1>{goal}" for state in states for letter in ("00", "01") for goal in states]
        self.assertEqual(len(Table.read(" ".join(["2 2 n0"] + steps[:2000]))), 32)
        assert_raises(self, TooMany, ["steps", 2000], Table.read, " ".join(["2 2 n0"] + steps[:2001]))
        self.assert_bad_text(" ".join(["2 2 n0"] + steps[:2001] + steps[:1]), 2004)
        assert_raises(self, TooMany, ["states", 40], Table.read, " ".join(["2 2 n0"] + steps[:2001] + ends))


if __name__ == "__main__":
    unittest.main()
