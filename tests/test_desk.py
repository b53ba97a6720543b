"""Desks: each line of the table, lines of another form, what is refused, and runs."""

import random
import re
import time
import unittest

from helpers import (
    assert_raises, at_most, below, crowded, equal, odd_values, random_table, ring, size_table, slow_at, tree_scheme)
from sumdigits import known
from sumdigits.cuts import cut
from sumdigits.desk import Desk
from sumdigits.errors import BadCommand, SumError
from sumdigits.greatest import keeps_greatest
from sumdigits.judged import judge
from sumdigits.noughts import nought
from sumdigits.schemes import Plane, Scheme
from sumdigits.stores import GreatestStore, SumStore
from test_judged import ring_of
from test_looks import silent

OK = "ok"
NAME = re.compile("[a-z][a-z0-9]{0,7}", re.ASCII)
NUMBER = re.compile("(0|-?[1-9][0-9]{0,59})", re.ASCII)
WORD = re.compile("(-|[0-3]{1,100})", re.ASCII)
KIND = re.compile("sums|greatest")
FORMS = {
    "table": [NAME, None], "scheme": [NAME, None], "drop": [NAME], "names": [], "show": [NAME], "tell": [NAME, WORD],
    "sum": [NAME] * 3, "joined": [NAME] * 3, "nought": [NAME], "judge": [NAME] * 2, "cut": [NAME],
    "greatest": [NAME] * 2, "open": [KIND, NAME, NUMBER], "set": [NUMBER] * 2, "add": [NUMBER] * 2, "ask": [NUMBER],
    "entries": [], "cells": [NUMBER], "exchange": [NAME], "back": []}


def own_form(line):
    """The index of the first word of a line that cannot stand, None for a right line."""
    if type(line) is not str:
        return 0
    words = line.split(" ")
    if words[0] not in FORMS:
        return 0
    tests = FORMS[words[0]]
    if words[0] == "tell":
        tests = tests[:1] + [WORD] * min(3, max(1, len(words) - 2))
    if words[0] in ("table", "scheme") and len(words) > 2:
        return None if NAME.fullmatch(words[1]) else 1
    for at, test in enumerate(tests, 1):
        if at == len(words) or test is None or not test.fullmatch(words[at]):
            return at
    return len(tests) + 1 if len(words) > len(tests) + 1 else None


def all_of(desk):
    """What a desk tells of its book and of its store; nothing is changed."""
    told = [desk("names")]
    told += [desk(f"show {name}") for name in told[0].split(" ") if told[0] != "none"]
    told.append(desk("entries"))
    told += [desk(f"cells {at}") for at in range(9)]
    told += [desk(f"ask {at}") for at in range(17)]
    return told


def undone(desk):
    """All that a desk tells, and then behind each deed that can be taken back; the desk has nothing left of these."""
    told = [all_of(desk)]
    while desk("back") == OK:
        told.append(all_of(desk)[-27:])
    return told


def some_desk():
    """A desk with tables, schemes and an open store with some deeds."""
    desk = Desk()
    told = desk.run(f"scheme t {tree_scheme()}", f"table w {below(2)}", f"table a {at_most(2)}", f"table three {below(3)}",
                    f"table size {size_table()}", "table nil 2 0 e", "table one 2 0 e e=1", f"scheme three3 {known.tree_scheme(3)}",
                    f"scheme h {known.halves_scheme()}", f"scheme p {known.plain_scheme(2)}", "open sums t 2", "set 0 5",
                    "add 2 7")
    assert set(told) == {OK}
    return desk


RIGHT_LINES = ["names", "entries", "back", "ask 0", "ask -1", "cells 0", "cells 9", "set 0 5", "add 1 -3", "show t", "show zz",
               "drop t", "tell w 01 11", "tell size -", "sum x w a", "joined y w a", "nought w", "judge t w", "cut t",
               "greatest t w", "open sums t 2", "open greatest t -1", "exchange p", "table b 2 0 e", "scheme b x", "table b ",
               f"table b {below(2)}", f"scheme c {tree_scheme()}", "table w", "tell w 0 1 2", "open sums zz 99"]


class Lines(unittest.TestCase):
    def test_table_and_scheme(self):
        desk = Desk()
        self.assertEqual(desk.say(f"table a {below(2)}"), OK)
        self.assertEqual([desk.say("show a"), desk.say("names")], [str(below(2)), "a"])
        self.assertEqual(desk.say(f"scheme a {tree_scheme()}"), OK)
        self.assertEqual([desk("show a"), desk("names")], [str(tree_scheme()), "a"])
        self.assertEqual(desk(f"table table {size_table()}"), OK)
        self.assertEqual(desk("names"), "a table")
        self.assertEqual([desk(line="show table"), desk.say(line="names")], [str(size_table()), "a table"])
        for line in ("table a 2 0 E", "table a ", "table a  ", "table a x y", "scheme a 2 2 e", f"scheme a {below(2)}",
                     f"table a {tree_scheme()}", f"scheme a {tree_scheme()} ", "table a 2 0 e\n"):
            self.assertEqual(desk(line), "refused BadText")
        wide = "2 0 a0 " + " ".join(f"{name}=1" for name in sorted(f"a{at}" for at in range(41)))
        self.assertEqual([desk(f"table a {wide}"), desk(f"table a {wide} x")], ["refused TooMany", "refused BadText"])
        self.assertEqual(desk("show a"), str(tree_scheme()))

    def test_names_and_drop(self):
        desk = Desk()
        self.assertEqual([desk("names"), desk("drop a")], ["none", "refused NoState"])
        self.assertEqual(desk.run("table b 2 0 e", "table a1 2 0 e", "table a 2 0 e", "names", "drop a1", "names", "drop a",
                                  "drop b", "names", "drop b"),
                         [OK, OK, OK, "a a1 b", OK, "a b", OK, OK, "none", "refused NoState"])

    def test_50_and_51_names(self):
        desk = Desk()
        self.assertEqual(desk.run(*[f"table n{at} {equal(2)}" for at in range(50)]), [OK] * 50)
        before = all_of(desk)
        for line in ("table x 2 0 e", f"scheme x {tree_scheme()}", "sum x n0 n1", "joined x n0 n1"):
            self.assertEqual(desk(line), "refused TooMany")
            self.assertEqual(all_of(desk), before)
        self.assertEqual(desk.run("table x 2 0 E", "sum x n0 zz", "joined zz x n0", "drop zz"),
                         ["refused BadText", "refused NoState", "refused NoState", "refused NoState"])
        self.assertEqual(desk.run("table n7 2 0 e", "sum n8 n0 n1", "sum x n7 n0", "joined x n7 n7", "scheme n9 " + str(tree_scheme()),
                                  "sum x n9 n0"), [OK, OK, "refused Unlike", "refused BadWidth", OK, "refused BadTable"])
        self.assertEqual(desk.run("drop n49", "sum x n0 n1", "table y 2 0 e"), [OK, OK, "refused TooMany"])

    def test_tell(self):
        desk = some_desk()
        self.assertEqual(desk.run("tell w 01 11", "tell w - -", "tell size 1011", "tell size -", "tell a 1 1"),
                         ["1", "0", "11", "0", "1"])
        self.assertEqual(desk.run("tell w 01", "tell w 0 1 1", "tell w 0 11", "tell w 2 0", "tell one -", "tell one 0 1 2",
                                  "tell size 2", "tell t 0 1", "tell zz 0 1"),
                         ["refused Unlike", "refused Unlike", "refused Unlike", "refused BadWord", "refused BadWidth",
                          "refused BadWidth", "refused BadWord", "refused BadTable", "refused NoState"])
        self.assertEqual(desk(f"tell size {'1' * 100}"), str(2 ** 100 - 1))
        dice = random.Random(120)
        for trial in range(40):
            width = dice.randint(1, 3)
            table = random_table(dice, 2, width, 3)
            words = ["".join(dice.choice("01") for _ in range(3)) for _ in range(width)]
            self.assertEqual(desk.run(f"table r {table}", "tell r " + " ".join(words)), [OK, str(slow_at(table, *words))])

    def test_sum_and_joined(self):
        desk = some_desk()
        self.assertEqual(desk.run("sum x w a", "tell x 0 1", "tell x 1 1", "joined y w w", "tell y 00 11", "sum w w w",
                                  "tell w 0 1", "sum zz nil one"), [OK, "2", "1", OK, "2", OK, "2", OK])
        self.assertEqual(desk("show x"), str(below(2) + at_most(2)))
        for line, due in (("sum x w zzz", "NoState"), ("sum x zzz w", "NoState"), ("sum x t zzz", "NoState"),
                          ("sum x t w", "BadTable"), ("sum x w t", "BadTable"), ("sum x w three", "Unlike"),
                          ("sum x w size", "Unlike"), ("joined x size size", "BadWidth"), ("joined x w size", "Unlike"),
                          ("joined x t t", "BadTable"), ("joined x w zzz", "NoState")):
            before = all_of(desk)
            self.assertEqual(desk(line), "refused " + due, line)
            self.assertEqual(all_of(desk), before)
        desk(f"table r {ring_of(30, 2, 1)}")
        self.assertEqual(desk("sum r r r"), "refused TooMany")

    def test_nought(self):
        desk = some_desk()
        self.assertEqual(desk.run("nought w", "nought nil", "nought one", "nought a", "nought size", "nought t", "nought zz"),
                         ["somewhere 1 0 1", "nought", "somewhere 1 0", "somewhere 1 - -", "somewhere 1 1",
                          "refused BadTable", "refused NoState"])
        self.assertEqual(desk.run("table l 2 0 a a:*3>b b:*-2>c c=7", "nought l", "table k 3 3 e e=-5", "nought k"),
                         [OK, "somewhere -42 2", OK, "somewhere -5 - - -"])
        self.assertEqual(desk.run(f"table c {silent(ring(40, 2, 0))}", "nought c"), [OK, "nought"])
        self.assertEqual(desk.run(f"table c {ring(18, 2, 0) - ring(19, 2, 0)}", "nought c"), [OK, "somewhere -18 18"])
        dice = random.Random(121)
        for trial in range(30):
            table = random_table(dice, 2, 1, 3)
            paper = nought(table)
            desk(f"table r {table}")
            due = "nought" if paper else f"somewhere {paper.value} {paper.words[0] or '-'}"
            self.assertEqual(desk("nought r"), due)

    def test_judge_and_greatest(self):
        desk = some_desk()
        self.assertEqual(desk.run("judge t w", "judge t a", "judge p w", "greatest t w", "greatest t a", "greatest p w"),
                         ["right", "wrong - - 0 1", "wrong - - 1 0", "covered", "uncovered - -", "uncovered - -"])
        self.assertEqual(desk.run("sum ww w w", "judge t ww", "greatest t ww", f"table eq {equal(2)}", "judge h eq"),
                         [OK, "wrong 0 1 1 2", "covered", OK, "wrong 0 0 2 1"])
        self.assertEqual(desk.run(f"scheme two {tree_scheme() + tree_scheme()}", "judge two w", "greatest two w",
                                  "greatest two eq", "greatest h w"),
                         [OK, "wrong 0 1 2 1", "covered", "uncovered - -", "refused BadScheme"])
        self.assertEqual(desk.run(f"table m {below(2) * -1}", "greatest t m", "judge t m"),
                         [OK, "refused BadTable", "wrong 0 1 1 -1"])
        for word in ("judge", "greatest"):
            self.assertEqual(desk.run(f"{word} t zz", f"{word} zz w", f"{word} w zz", f"{word} zz t", f"{word} w t",
                                      f"{word} w w", f"{word} t t", f"{word} t three", f"{word} t size",
                                      f"{word} three3 size"),
                             ["refused NoState"] * 4 + ["refused BadScheme"] * 2 +
                             ["refused BadTable", "refused Unlike", "refused BadWidth", "refused Unlike"])
        for scheme, wanted in ((tree_scheme(), below(2) + equal(2)), (known.plain_scheme(3), equal(3)),
                               (known.running_scheme(2), known.within(2)), (known.tree_scheme(4), known.below(4))):
            desk.run(f"scheme r {scheme}", f"table v {wanted}")
            paper, other = judge(scheme, wanted), keeps_greatest(scheme, wanted)
            self.assertEqual(desk("judge r v"), "right" if paper else " ".join(
                ["wrong", paper.entry or "-", paper.question or "-", str(paper.told), str(paper.due)]))
            self.assertEqual(desk("greatest r v"), "covered" if other else " ".join(
                ["uncovered", other.entry or "-", other.question or "-"]))

    def test_words_of_more_than_100_digits(self):
        desk = Desk()
        desk.run(f"scheme r {Scheme(Plane(ring_of(19, 2, 1), ring_of(21, 2, 1)))}", "table z 2 2 e")
        self.assertEqual(desk("greatest r z"), f"uncovered {'0' * 398} {'0' * 398}")

    def test_cut(self):
        desk = some_desk()
        self.assertEqual(desk.run("cut t", "cut h", "cut p", "cut w", "cut zz"),
                         ["whole", "torn 0 0 1 1", "whole", "refused BadScheme", "refused NoState"])
        for name, made in (("r", known.running_scheme(3)), ("r", ~known.running_scheme(2)), ("r", known.slope_scheme(2))):
            desk(f"scheme {name} {made}")
            paper = cut(made)
            self.assertEqual(desk(f"cut {name}"), "whole" if paper else
                             f"torn {paper.entry} {paper.question} {paper.cell} {paper.worth}")
        big = Scheme(*[Plane(ring_of(20), ring_of(6))] * 2)
        self.assertEqual(desk.run(f"scheme b {big}", "cut b", "judge b w"), [OK, "refused TooMany", "wrong 0 1 0 1"])

    def test_stores(self):
        desk = some_desk()
        self.assertEqual(desk.run("entries", "cells 0", "ask 3", "ask 0", "add 1 -2", "entries", "set 3 0", "back", "back",
                                  "entries", "exchange p", "ask 2", "cells 0", "back", "ask 2"),
                         ["5 0 7 0", "5 5 7 0", "12", "0", OK, "5 -2 7 0", OK, OK, OK, "5 0 7 0", OK, "7", "5 0 7 0", OK, "5"])
        self.assertEqual(desk.run("open greatest t 1", "entries", "set 0 5", "set 0 4", "add 0 -1", "ask 1", "back", "back"),
                         [OK, "0 0", OK, "refused BadNumber", "refused BadNumber", "5", OK, "refused Nothing"])
        self.assertEqual(desk.run("ask 2", "ask -1", "set 2 5", "add 9 5", "cells 1", "cells -1", "exchange h",
                                  "exchange three3", "exchange w", "exchange zz"),
                         ["refused NoEntry"] * 4 + ["refused NoPlane"] * 2 +
                         ["refused BadScheme", "refused Unlike", "refused BadScheme", "refused NoState"])
        self.assertEqual(desk.run("open sums t 9", "open sums t -1", "open greatest h 2", "open greatest h 9",
                                  "open sums three3 6", "open sums w 2", "open sums zz 2", "entries"),
                         ["refused BadNumber", "refused BadNumber", "refused BadScheme", "refused BadScheme",
                          "refused TooMany", "refused BadScheme", "refused NoState", "0 0"])
        self.assertEqual(desk.run("open sums h 0", "entries", "set 0 -7", "ask 0", "cells 0", "drop h", "ask 0"),
                         [OK, "0", OK, "-7", "-7", OK, "-7"])
        self.assertEqual(desk.run(f"scheme both {known.tree_with_entries(2)}", "open sums both 2", "set 1 4", "cells 1",
                                  "table both 2 0 e", "ask 1"), [OK, OK, OK, "0 4 0 0", OK, "4"])

    def test_500_and_501_deeds(self):
        desk = some_desk()
        self.assertEqual(desk.run("open sums t 1", *["add 0 1"] * 501, "set 0 1", "exchange p", "entries"),
                         [OK] * 501 + ["refused TooMany"] * 3 + ["500 0"])
        self.assertEqual(desk.run("set 5 1", "back", "set 0 7", "back", "entries"), ["refused NoEntry", OK, OK, OK, "499 0"])

    def test_what_is_asked_of_a_store_while_none_is_open(self):
        desk = Desk()
        for line in ("set 0 5", "add 0 5", "ask 0", "entries", "cells 0", "back", "set 99 99", "ask -1"):
            self.assertEqual(desk(line), "refused Nothing")
        self.assertEqual(desk("exchange t"), "refused NoState")
        desk.run(f"scheme t {tree_scheme()}", f"table w {below(2)}")
        self.assertEqual(desk.run("exchange t", "exchange w", "exchange zz", "open sums t 9", "entries"),
                         ["refused Nothing", "refused BadScheme", "refused NoState", "refused BadNumber",
                          "refused Nothing"])

    def test_numbers_of_more_figures_than_str_takes(self):
        desk = Desk()
        great = 10 ** 39 + 1
        self.assertEqual(desk.run(f"table g 2 2 e e:00*{great}>e e:01*{great}>e e:11*1>e e=1"), [OK])
        times = 1
        for turn in range(7):
            self.assertEqual(desk("joined g g g"), OK)
            times *= 2
        due = great ** times
        self.assertEqual(digits_of(desk("tell g 0 0")), due)
        self.assertEqual(digits_of(desk("show g").split("*")[1].split(">")[0]), due)
        self.assertEqual(digits_of(desk(f"tell g {'0' * 3} {'0' * 3}")), due ** 3)
        self.assertEqual([desk("nought g"), desk("tell g - -")], ["somewhere 1 - -", "1"])
        self.assertEqual(digits_of(desk.run("table d 2 2 e e:11*1>e e=-1", "sum d g d", "nought d")[2].split(" ")[1]), due)
        desk.run(f"scheme s {known.plain_scheme(2)}", f"table zero 2 2 e")
        self.assertEqual(desk("judge s g"), f"wrong 0 0 1 {desk('tell g 0 0')}")

    def test_any_right_line_of_a_drawn_desk(self):
        """Entries, cells and answers as a store of the same deeds has them."""
        dice = random.Random(122)
        for kind, word in ((SumStore, "sums"), (GreatestStore, "greatest")):
            for trial in range(10):
                base = dice.choice((2, 3))
                scheme = Scheme(Plane(random_table(dice, base, 2, 2, (1, 2)), random_table(dice, base, 2, 2, (1, 2))))
                desk, store = Desk(), kind(scheme, 2)
                self.assertEqual(desk.run(f"scheme s {scheme}", f"open {word} s 2"), [OK, OK])
                for _ in range(15):
                    at, amount = dice.randrange(len(store)), dice.randint(-5, 9)
                    line = dice.choice((f"set {at} {amount}", f"add {at} {amount}"))
                    try:
                        store.play(line)
                        self.assertEqual(desk(line), OK)
                    except SumError as error:
                        self.assertEqual(desk(line), "refused " + type(error.__cause__).__name__)
                    self.assertEqual(desk("entries"), " ".join(map(str, store)))
                    self.assertEqual(desk("cells 0"), " ".join(map(str, store.cells(0))))
                    self.assertEqual(desk.run(*[f"ask {at}" for at in range(len(store))]),
                                     [str(store(at)) for at in range(len(store))])


def digits_of(text):
    """The number that a text of any length writes."""
    sign, figures = (-1, text[1:]) if text.startswith("-") else (1, text)
    number = 0
    for at in range(0, len(figures), 100):
        chunk = figures[at:at + 100]
        number = number * 10 ** len(chunk) + int(chunk)
    return sign * number


class Forms(unittest.TestCase):
    def assert_form(self, desk, line):
        due = own_form(line)
        if due is None:
            self.assertIs(type(desk.say(line)), str)
        else:
            before = all_of(desk)
            assert_raises(self, BadCommand, [due], desk.say, line)
            assert_raises(self, BadCommand, [due], desk, line)
            assert_raises(self, BadCommand, [due], desk.run, "back", line, "back")
            self.assertEqual(all_of(desk), before)

    def test_words_left_out_put_in_and_exchanged(self):
        others = ["", "-", "0", "01", "4", "x", "X", "zz9", "a b", "-0", "00", "-7", "1" * 60, "1" * 61, "0" * 100, "0" * 101,
                  "abcdefgh", "abcdefghi", "sums", "greatest", "1.5", "+1", "names", "0\n", "\n", "12", "w", "t"]
        right, wrong = 0, 0
        for line in RIGHT_LINES:
            words = line.split(" ")
            if len(words) > 6:
                words = words[:6]
            lines = [" ".join(words), line + " ", " " + line, line + " x", line.replace(" ", "  "), line + "\n", line.upper()]
            for at in range(len(words)):
                lines += [" ".join(words[:at] + words[at + 1:]), " ".join(words[:at] + words[at:at + 1] + words[at:]),
                          " ".join(words[:at] + words[at + 1:at + 2] + words[at:at + 1] + words[at + 2:]),
                          " ".join(words[:at])]
                for other in others:
                    lines += [" ".join(words[:at] + [other] + words[at + 1:]), " ".join(words[:at] + [other] + words[at:])]
            desk = some_desk()
            for other in lines:
                right += own_form(other) is None
                wrong += own_form(other) is not None
                if own_form(other) is not None or len(other) < 90:
                    self.assert_form(desk, other)
        self.assertGreater(min(right, wrong), 500)

    def test_by_hand(self):
        desk = some_desk()
        for line, due in (("", 0), (" ", 0), ("x", 0), ("Names", 0), ("names ", 1), ("names x", 1), ("table", 1), ("table ", 1),
                          ("table A 2 0 e", 1), ("table a", 2), ("scheme a", 2), ("drop", 1), ("drop 1", 1), ("drop a b", 2),
                          ("show", 1), ("show  a", 1), ("tell", 1), ("tell w", 2), ("tell w 4", 2), ("tell w 0 4", 3),
                          ("tell w 0 1 2 3", 5), ("tell w 0 1 2 x", 5), ("tell w 0 1 2 ", 5), ("tell w 0 ", 3), ("tell w --", 2),
                          ("tell w " + "0" * 101, 2), ("sum", 1), ("sum a", 2), ("sum a b", 3), ("sum a b c d", 4),
                          ("joined a 0 c", 2), ("nought", 1), ("nought a b", 2), ("judge a", 2), ("judge a b c", 3),
                          ("cut", 1), ("cut a a", 2), ("greatest a", 2), ("greatest a b c", 3), ("open", 1), ("open x", 1),
                          ("open sums", 2), ("open sums t", 3), ("open sums t 02", 3), ("open sums t 2 3", 4),
                          ("open more t 2", 1), ("open Sums t 2", 1), ("open greatest 2 t", 2), ("set", 1), ("set 0", 2),
                          ("set 0 5 6", 3), ("set x 5", 1), ("set 0 x", 2), ("set -0 5", 1), ("set 0 05", 2),
                          ("set 0 " + "1" * 61, 2), ("set 0 -" + "1" * 61, 2), ("add 0 +5", 2), ("add 0 1.0", 2), ("ask", 1),
                          ("ask x", 1), ("ask 0 0", 2), ("entries 0", 1), ("cells", 1), ("cells x", 1), ("cells 0 0", 2),
                          ("exchange", 1), ("exchange 0", 1), ("exchange p p", 2), ("back 1", 1), ("back\n", 0)):
            self.assertEqual(own_form(line), due, line)
            self.assert_form(desk, line)
        for line in ("set 0 " + "1" * 60, "set 0 -" + "1" * 60, "ask -5", "tell w " + "0" * 100, "table a ", "cells 10"):
            self.assertIsNone(own_form(line))
            self.assert_form(desk, line)

    def test_any_values(self):
        desk = some_desk()
        for value in odd_values() + [b"names", ["names"], ("names",), "names x"]:
            due = 1 if value == "names x" else 0
            for call in (desk, desk.say, desk.run, lambda line: desk.run("back", line), lambda line: desk.run(line, None)):
                before = all_of(desk)
                assert_raises(self, BadCommand, [due], call, value)
                self.assertEqual(all_of(desk), before)


class Runs(unittest.TestCase):
    def test_ordinary(self):
        desk = Desk()
        self.assertEqual(desk.run(), [])
        self.assertEqual(desk.run("names"), ["none"])
        told = desk.run("table a 2 0 e", "names")
        self.assertEqual(told, [OK, "a"])
        told.append("x")
        self.assertEqual(desk.run("names", "drop zz", "names"), ["a", "refused NoState", "a"])

    def test_a_wrong_line_at_each_place(self):
        lines = ["set 1 9", "exchange p", "back", "back", "add 3 1", "drop w", "table w 2 0 e", "sum a a a", "open greatest t 1",
                 "set 0 3", "back", f"scheme t {known.plain_scheme(2)}", "drop p"]
        due = undone(some_desk())
        for wrong in ("", "names x", "set 0", "tell w 0 1 2 3", None, 7):
            for at in range(len(lines) + 1):
                desk = some_desk()
                fields = [own_form(wrong)]
                assert_raises(self, BadCommand, fields, desk.run, *lines[:at], wrong, *lines[at:])
                assert_raises(self, BadCommand, fields, desk.run, *lines[:at], wrong, "", *lines[at:])
                self.assertEqual(undone(desk), due)
        desk = some_desk()
        self.assertTrue(all(answer in (OK, "refused Nothing") for answer in desk.run(*lines)))
        self.assertNotEqual(undone(desk), due)

    def test_without_a_store(self):
        desk = Desk()
        assert_raises(self, BadCommand, [1], desk.run, f"scheme t {tree_scheme()}", "open sums t 1", "names x")
        self.assertEqual(desk.run("names", "entries"), ["none", "refused Nothing"])

    def test_what_is_refused_changes_nothing(self):
        for line in RIGHT_LINES:
            desk = some_desk()
            before = undone(some_desk())
            if own_form(line) is None and desk(line).startswith("refused"):
                self.assertEqual(undone(desk), before, line)

    def test_two_desks(self):
        one, other = some_desk(), some_desk()
        due = all_of(other)
        one.run("drop t", "set 0 100", "exchange p", "table w 2 0 e", "sum a a a")
        self.assertEqual(all_of(other), due)
        self.assertNotEqual(all_of(one), due)
        self.assertFalse(one == other)
        self.assertTrue(one == one)


class Times(unittest.TestCase):
    def test_in_time(self):
        begun = time.process_time()
        desk = Desk()
        scheme = Scheme(Plane(crowded(2, 2, 40, 2000, 5, 20), crowded(2, 2, 40, 2000, 5, 20, 2)))
        desk.run(*[f"scheme s{at} {scheme}" for at in range(10)], *[f"scheme t{at} {tree_scheme()}" for at in range(40)])
        self.assertEqual(desk.run(*["open sums t0 8"] + [f"add {at % 256} {10 ** 59 + at}" for at in range(500)]), [OK] * 501)
        for _ in range(5):
            desk.run(*[f"ask {at}" for at in range(256)], "entries", "cells 0", "names", "show s3")
        self.assertEqual(desk.run("open sums s0 8", "set 3 5", "ask 7")[:2], [OK, OK])
        self.assertEqual(desk.run(*["back"] * 1), [OK])
        self.assertLess(time.process_time() - begun, 20)


if __name__ == "__main__":
    unittest.main()
