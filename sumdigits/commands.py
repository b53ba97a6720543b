"""The forms of the lines that desks take."""

from sumdigits.checks import has_digits, is_name
from sumdigits.errors import BadCommand
from sumdigits.numerals import number_in

# What stands behind the first word of a line: one word each, but for a text, which is all that is left, and for
# one to three words of digits.
FORMS = {
    "table": ("name", "text"), "scheme": ("name", "text"), "drop": ("name",), "names": (), "show": ("name",),
    "tell": ("name", "words"), "sum": ("name", "name", "name"), "joined": ("name", "name", "name"),
    "nought": ("name",), "judge": ("name", "name"), "cut": ("name",), "greatest": ("name", "name"),
    "open": ("kind", "name", "number"), "set": ("number", "number"), "add": ("number", "number"),
    "ask": ("number",), "entries": (), "cells": ("number",), "exchange": ("name",), "back": ()}


def parsed(line):
    """The list of the first word of a line and of what stands behind it: names, texts, numbers, tuples of words."""
    words = line.split(" ") if isinstance(line, str) else [""]
    if words[0] not in FORMS:
        raise BadCommand(0)
    found = [words[0]]
    at = 1
    for part in FORMS[words[0]]:
        if at >= len(words):
            raise BadCommand(len(words))
        end = len(words) if part in ("text", "words") else at + 1
        found.append(_read_part(part, words[at:end], at))
        at = end
    if at < len(words):
        raise BadCommand(at)
    return found


def _read_part(part, words, at):
    """What some words that stand from an index on tell."""
    if part == "text":
        return " ".join(words)
    if part == "words":
        return _read_words(words, at)
    value = _value_of(part, words[0])
    if value is None:
        raise BadCommand(at)
    return value


def _read_words(words, at):
    """The tuple of one to three words of digits."""
    found = []
    for word in words:
        digits = "" if word == "-" else word
        if len(found) == 3 or word == "" or len(word) > 100 or not has_digits(digits, 4):
            raise BadCommand(at + len(found))
        found.append(digits)
    return tuple(found)


def _value_of(part, word):
    """What a single word tells, None if it cannot stand."""
    if part == "number":
        return number_in(word, 60)
    if part == "kind":
        return word if word in ("sums", "greatest") else None
    return word if is_name(word) else None
