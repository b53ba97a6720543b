"""A desk: it does what lines of words tell, and answers with strings."""

from sumdigits.commands import parsed
from sumdigits.cuts import cut
from sumdigits.errors import NoState, Nothing, SumError, TooMany
from sumdigits.greatest import keeps_greatest
from sumdigits.judged import judge
from sumdigits.noughts import nought
from sumdigits.numerals import figures_of
from sumdigits.reader import read_kind
from sumdigits.schemes import check_scheme
from sumdigits.stores import GreatestStore, SumStore
from sumdigits.tables import check_table
from sumdigits.texts import figures_row, shown


def _keep_text(desk, told):
    kind, name, text = told
    return desk.keep(name, read_kind(kind, text))


def _drop(desk, told):
    desk.drop(told[1])
    return "ok"


def _names(desk, told):
    names = desk.names()
    return " ".join(names) if len(names) > 0 else "none"


def _show(desk, told):
    return str(desk.values_of([told[1]], ["any"])[0])


def _tell(desk, told):
    _, name, words = told
    table = desk.values_of([name], ["table"])[0]
    return figures_of(table.tell(*words))


def _keep_sum(desk, told):
    one, other = desk.values_of(told[2:], ["table", "table"])
    return desk.keep(told[1], one + other)


def _keep_joined(desk, told):
    one, other = desk.values_of(told[2:], ["table", "table"])
    return desk.keep(told[1], one >> other)


def _nought(desk, told):
    table = desk.values_of(told[1:], ["table"])[0]
    paper = nought(table)
    if paper:
        return "nought"
    words = [shown(word) for word in paper.words] if table.width > 0 else [str(paper.words)]
    return " ".join(["somewhere", figures_of(paper.value)] + words)


def _judge(desk, told):
    scheme, wanted = desk.values_of(told[1:], ["scheme", "table"])
    paper = judge(scheme, wanted)
    if paper:
        return "right"
    return f"wrong {shown(paper.entry)} {shown(paper.question)} {figures_row((paper.told, paper.due))}"


def _cut(desk, told):
    paper = cut(desk.values_of(told[1:], ["scheme"])[0])
    if paper:
        return "whole"
    return f"torn {shown(paper.entry)} {shown(paper.question)} {shown(paper.cell)} {figures_of(paper.worth)}"


def _greatest(desk, told):
    scheme, wanted = desk.values_of(told[1:], ["scheme", "table"])
    paper = keeps_greatest(scheme, wanted)
    return "covered" if paper else f"uncovered {shown(paper.entry)} {shown(paper.question)}"


def _open(desk, told):
    _, kind, name, length = told
    scheme = desk.values_of([name], ["scheme"])[0]
    desk.put_store(SumStore(scheme, length) if kind == "sums" else GreatestStore(scheme, length))
    return "ok"


def _set(desk, told):
    store = desk.the_store()
    store[told[1]] = told[2]
    return "ok"


def _add(desk, told):
    desk.the_store().add(told[1], told[2])
    return "ok"


def _ask(desk, told):
    store = desk.the_store()
    return figures_of(store(told[1]))


def _entries(desk, told):
    return figures_row(desk.the_store().entries)


def _cells(desk, told):
    return figures_row(desk.the_store().cells(told[1]))


def _exchange(desk, told):
    scheme = desk.values_of(told[1:], ["scheme"])[0]
    desk.the_store().exchange(scheme)
    return "ok"


def _back(desk, told):
    desk.the_store().undo()
    return "ok"


ACTIONS = {
    "table": _keep_text, "scheme": _keep_text, "drop": _drop, "names": _names, "show": _show, "tell": _tell,
    "sum": _keep_sum, "joined": _keep_joined, "nought": _nought, "judge": _judge, "cut": _cut, "greatest": _greatest,
    "open": _open, "set": _set, "add": _add, "ask": _ask, "entries": _entries, "cells": _cells,
    "exchange": _exchange, "back": _back}


class Desk:
    """Keeps a book of tables and schemes by names, and a store."""

    def __init__(self):
        self._book = {}
        self._store = None

    def say(self, line):
        """Do what a line tells; the answer."""
        return self._answer_to(parsed(line))

    def __call__(self, line):
        return self.say(line)

    def run(self, *lines):
        """The list of the answers to some lines, none of which is done if one of them is no command."""
        commands = [parsed(line) for line in lines]
        return [self._answer_to(told) for told in commands]

    def _answer_to(self, told):
        action = ACTIONS[told[0]]
        try:
            return action(self, told)
        except SumError as error:
            return "refused " + error.__class__.__name__

    def values_of(self, names, kinds):
        """The list of what the book has by some names, each a table, a scheme or any of both."""
        for name in names:
            if name not in self._book:
                raise NoState(name)
        values = [self._book[name] for name in names]
        for value, kind in zip(values, kinds):
            if kind == "table":
                check_table(value, kind)
            if kind == "scheme":
                check_scheme(value, kind)
        return values

    def keep(self, name, value):
        """Keep a value by a name."""
        if name not in self._book and len(self._book) == 50:
            raise TooMany("names", 50)
        self._book[name] = value
        return "ok"

    def drop(self, name):
        """Take a name out of the book."""
        if name not in self._book:
            raise NoState(name)
        del self._book[name]

    def names(self):
        """The ascending list of the names in the book."""
        return sorted([str(name) for name in self._book])

    def put_store(self, store):
        """Keep this store in the place of the one that is open."""
        self._store = store

    def the_store(self):
        """The store that is open."""
        if self._store is None:
            raise Nothing()
        return self._store
