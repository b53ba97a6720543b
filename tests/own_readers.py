"""Another reading of the texts of stores, books and papers of nought, and texts that are spoiled at one place.

Each reader gives ("value", what it reads) or ("error", class, fields).
"""

import re

from helpers import letters_of
from sumdigits.errors import BadText, SumError
from sumdigits.noughts import Nought
from sumdigits.schemes import Scheme
from sumdigits.stores import GreatestStore, SumStore
from sumdigits.tables import Table

NUMBER = re.compile("(0|-?[1-9][0-9]{0,59})", re.ASCII)
NAME = re.compile("[a-z][a-z0-9]{0,7}", re.ASCII)


class Stop(Exception):
    """What the reading ends in."""


def bad(line, word):
    raise Stop(("error", BadText, [line, word]))


def outcome(read, text):
    try:
        return ("value", read(text))
    except Stop as stop:
        return stop.args[0]
    except SumError as error:
        return ("error", type(error), list(vars(error).values()))


def number_of(word):
    return int(word) if NUMBER.fullmatch(word) else None


def check_words(line, words, tests):
    """Just as many words as tests, each right by its test; a function of the words so far tells one more test."""
    for at, test in enumerate(tests):
        if at == len(words) or not test(words[at]):
            bad(line, at)
    if len(words) > len(tests):
        bad(line, len(tests))


def within(low, high):
    def test(word):
        number = number_of(word)
        return number is not None and (low is None or number >= low) and (high is None or number <= high)
    return test


def told_by_class(kind, line, words, ahead):
    try:
        return kind.read(" ".join(words[ahead:]))
    except BadText as error:
        bad(line, ahead + error.word)


def lines_of(text):
    if type(text) is not str:
        bad(0, 0)
    return [line.split(" ") for line in text.split("\n")]


def own_store(text):
    lines = lines_of(text)
    check_words(0, lines[0], [lambda word: word in ("sums", "greatest"), within(0, 8), within(1, None)])
    kind, length, size = lines[0][0], int(lines[0][1]), int(lines[0][2])
    if len(lines) < 2:
        bad(1, 0)
    scheme = told_by_class(Scheme, 1, lines[1], 0)
    if size > scheme.base ** length:
        bad(0, 2)
    if len(lines) < 3:
        bad(2, 0)
    check_words(2, lines[2], [within(0 if kind == "greatest" else None, None)] * size)
    if len(lines) > 3:
        bad(3, 0)
    store = {"sums": SumStore, "greatest": GreatestStore}[kind](scheme, length, size)
    for at, word in enumerate(lines[2]):
        store[at] = int(word)
    return store


def own_book(text):
    lines = lines_of(text)
    if lines[0][0] == "-":
        check_words(0, lines[0], [lambda word: True])
        return bad(1, 0) if len(lines) > 1 else {}
    book = {}
    for at, words in enumerate(lines):
        if words[0] not in ("table", "scheme") or at > 49:
            bad(at, 0)
        if len(words) < 2 or not NAME.fullmatch(words[1]) or any(name >= words[1] for name in book):
            bad(at, 1)
        if len(words) < 3:
            bad(at, 2)
        book[words[1]] = told_by_class({"table": Table, "scheme": Scheme}[words[0]], at, words, 2)
    return book


def own_nought(text):
    lines = lines_of(text)
    check_words(0, lines[0], [lambda word: word == "nought", within(0, 3)])
    width = int(lines[0][1])
    letters = ["-"] if width == 0 else letters_of(4, width)
    many = 0
    while many + 1 < len(lines) and lines[many + 1][0] == "reading":
        many += 1
        if many > 40:
            bad(many, 0)
        check_words(many, lines[many], [lambda word: word == "reading"] +
                    [lambda word: word in letters] * (len(lines[many]) - 1))
    if many == 0:
        bad(1, 0)
    readings = tuple(tuple("" if width == 0 else word for word in lines[at + 1][1:]) for at in range(many))
    factors, last = {}, (0, "")
    for at in range(many + 1, len(lines)):
        words = lines[at]

        def after_last(word):
            return word in letters and (int(words[1]) > last[0] or last[1] == "" or word > last[1])

        check_words(at, words, [lambda word: word == "factor", within(last[0], many - 1), after_last, within(1, None)] +
                    [within(None, None)] * many)
        last = (int(words[1]), words[2])
        factors[int(words[1]), "" if width == 0 else words[2]] = (int(words[3]), tuple(int(word) for word in words[4:]))
    if width > 0 and not factors and not any(readings):
        bad(0, 1)
    return Nought(readings, factors)


def word_changes(word):
    """Other words in the place of one."""
    return ["", "x", "-", "0", "-1", "1", "9", "0" + word, "-" + word, "+" + word, word + "0", word + "x", word[:-1],
            word.upper(), word + "\t", "1" * 60, "1" * 61, "-" + "2" * 60, "-" + "2" * 61, "257", "1.0", "None", "a",
            "reading", "factor", "table", "scheme", "sums", "greatest", "nought", "|", ";", "3"]


def spoiled_texts(text, dice, most):
    """Texts that are a right one but for one place; of longer texts only some places are chosen."""
    lines = [line.split(" ") for line in text.split("\n")]
    places = [(at, index) for at, words in enumerate(lines) for index in range(len(words))]
    for at, index in places if len(places) <= most else dice.sample(places, most):
        words = lines[at]
        for other in word_changes(words[index]):
            yield joined(lines, at, words[:index] + [other] + words[index + 1:])
            yield joined(lines, at, words[:index] + [other] + words[index:])
        yield joined(lines, at, words[:index] + words[index + 1:])
        yield joined(lines, at, words[:index] + words[index:index + 1] + words[index:])
        yield joined(lines, at, words[:index] + words[index + 1:index + 2] + words[index:index + 1] + words[index + 2:])
        yield joined(lines, at, words[:index] + ["\n"] + words[index:])
    for at in range(len(lines)):
        yield from (told(lines[:at] + lines[at + 1:]), told(lines[:at] + lines[at:at + 1] + lines[at:]),
                    told(lines[:at] + lines[at + 1:at + 2] + lines[at:at + 1] + lines[at + 2:]),
                    told(lines[:at] + [[""]] + lines[at:]), told(lines[:at + 1]), joined(lines, at, lines[at] + [""]),
                    joined(lines, at, [""] + lines[at]), joined(lines, at, []))
    yield from ("", "\n", " ", text + "\n", "\n" + text, text + "\n\n", text + "\nx", text.replace("\n", "\r\n"), text * 2,
                text.replace("\n", " "), text.replace(" ", "  "), text.replace(" ", "\n"), text[:-1], text[1:])


def told(lines):
    return "\n".join(" ".join(words) for words in lines)


def joined(lines, at, words):
    return told(lines[:at] + [words] + lines[at + 1:])
