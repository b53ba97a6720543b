"""Integers as str writes them, also those of so many figures that str and int refuse them."""

from sumdigits.checks import FIGURES


def figures_of(number):
    """The integer as str writes it."""
    if number.bit_length() <= 2000:
        return str(number)
    parts = []
    rest = abs(number)
    while rest > 0:
        rest, low = divmod(rest, 10 ** 60)
        parts.append(str(low).zfill(60))
    sign = "-" if number < 0 else ""
    return sign + "".join(parts[::-1]).lstrip("0")


def number_in(word, most):
    """The integer that a word writes as str does, with at most so many figures, or with any number of them if most is
    None; None for any other word."""
    figures = word.removeprefix("-")
    if figures == "" or figures.strip(FIGURES) != "" or (figures[0] == "0" and word != "0"):
        return None
    if most is not None and len(figures) > most:
        return None
    head = len(figures) % 60
    number = int("0" + figures[:head])
    for at in range(head, len(figures), 60):
        number = number * 10 ** 60 + int(figures[at:at + 60])
    return number if word == figures else -number
