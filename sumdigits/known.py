"""Known tables and known schemes."""

from sumdigits.checks import DIGITS, check_base, is_between, is_integer, letters_of
from sumdigits.errors import BadLetter, BadWeight, BadWidth
from sumdigits.schemes import Plane, Scheme
from sumdigits.tables import Table


def equal(base):
    """1 where both words are equal."""
    return power(base, 1)


def below(base):
    """1 where the number of the first word is less than that of the second one."""
    check_base(base)
    return _comparing_table(base, {"f": 1})


def at_most(base):
    """1 where the number of the first word is not above that of the second one."""
    check_base(base)
    return _comparing_table(base, {"e": 1, "f": 1})


def within(base):
    """1 where each digit of the first word is not above that of the second one."""
    check_base(base)
    return _made(base, 2, _steps("e", "e", 1, [one + other for one, other in _pairs(base) if one <= other]), {"e": 1})


def next_one(base):
    """1 where the number of the second word is one more than that of the first one."""
    check_base(base)
    digits = DIGITS[:base]
    risen = [low + high for low, high in zip(digits, digits[1:])]
    steps = _steps("e", "e", 1, _twins(base)) + _steps("e", "f", 1, risen) + _steps("f", "f", 1, [digits[-1] + "0"])
    return _made(base, 2, steps, {"f": 1})


def ones(base, width):
    """1 everywhere."""
    check_base(base)
    if not is_between(width, 0, 3):
        raise BadWidth(width)
    return _made(base, width, _steps("e", "e", 1, letters_of(base, width)), {"e": 1})


def power(base, by):
    """by to the power of the length of the words where both are equal, 0 elsewhere."""
    check_base(base)
    if not is_integer(by):
        raise BadWeight(by)
    return _made(base, 2, _steps("e", "e", by, _twins(base)), {"e": 1})


def number_table(base):
    """The number of the word."""
    check_base(base)
    digits = DIGITS[:base]
    steps = _steps("e", "e", 1, digits) + _steps("f", "f", base, digits)
    return _made(base, 1, steps + [("e", digit, int(digit), "f") for digit in digits], {"f": 1})


def count_table(base, digit):
    """How often the digit stands in the word."""
    check_base(base)
    digits = DIGITS[:base]
    if not isinstance(digit, str) or len(digit) != 1 or digit not in digits:
        raise BadLetter(digit)
    steps = _steps("e", "e", 1, digits) + _steps("e", "f", 1, [digit]) + _steps("f", "f", 1, digits)
    return _made(base, 1, steps, {"f": 1})


def plain_scheme(base):
    """A cell is an entry."""
    return Scheme(Plane(equal(base), equal(base)))


def running_scheme(base):
    """Running totals: a change goes to all cells from its entry on, a question reads its own cell."""
    return Scheme(Plane(at_most(base), equal(base)))


def tree_scheme(base):
    """A tree by digits: a cell w d b-1 .. b-1 has the entries that begin with w d, where d is below b-1."""
    check_base(base)
    digits = DIGITS[:base]
    begin = _steps("e", "e", 1, _twins(base))
    to_the_end = _steps("f", "f", 1, [digit + digits[-1] for digit in digits])
    change = _steps("e", "f", 1, [digit + digit for digit in digits[:-1]])
    question = _steps("e", "f", 1, [one + other for one, other in _pairs(base) if one > other])
    return Scheme(Plane(_made(base, 2, begin + change + to_the_end, {"f": 1}),
                        _made(base, 2, begin + question + to_the_end, {"f": 1})))


def tree_with_entries(base):
    """A tree by digits, and the entries beside it."""
    return tree_scheme(base) + plain_scheme(base)


def halves_scheme():
    """Halves with differences: the cell 1 .. 1 has all entries, the cell w 0 1 .. 1 those that begin with w 0 less
    those that begin with w 1."""
    return Scheme(Plane(_halves_table(1), _halves_table(2)))


def _halves_table(by):
    """1 or -1 where a word begins with w 0 or w 1, times by to the power of the length of w; 1 at the cell 1 .. 1."""
    signs = _steps("e", "f", 1, ["00"]) + _steps("e", "f", -1, ["10"])
    later = _steps("g", "f", 1, ["00"]) + _steps("g", "f", -1, ["10"])
    begin = _steps("e", "g", by, ["00", "11"]) + _steps("g", "g", by, ["00", "11"])
    to_the_end = _steps("e", "f", 1, ["01", "11"]) + _steps("f", "f", 1, ["01", "11"])
    return _made(2, 2, signs + later + begin + to_the_end, {"e": 1, "f": 1})


def slope_scheme(base):
    """Running totals of the entries and of the entries times their numbers, the latter taken away."""
    check_base(base)
    same = {("e", letter): "e" for letter in _twins(base)}
    one_more = Table(base, 2, "e", _counted_steps(base, same), {"e": 1, "g": 1})
    less_number = Table(base, 2, "e", _counted_steps(base, _compared(base)), {"g": -1, "h": -1})
    return Scheme(Plane(at_most(base), one_more), Plane(less_number, equal(base)))


def _counted_steps(base, goals):
    """The steps to the goals, and beside the states e and f the states g and h, at which the number of the first word
    is being reckoned. goals is a dict from pairs (state, letter) to next states."""
    beside = {"e": "g", "f": "h"}
    first = {(state, letter): {goal: 1, beside[goal]: int(letter[0])} for (state, letter), goal in goals.items()}
    further = {(beside[state], letter): {beside[goal]: base} for (state, letter), goal in goals.items()}
    return {**first, **further}


def _pairs(base):
    """The letters of the width 2, as pairs of digits."""
    return [(letter[0], letter[1]) for letter in letters_of(base, 2)]


def _twins(base):
    """The letters of two equal digits."""
    return [digit + digit for digit in DIGITS[:base]]


def _steps(state, goal, weight, letters):
    """The steps by some letters from one state to one goal."""
    return [(state, letter, weight, goal) for letter in letters]


def _compared(base):
    """The next states, where the first word is equal so far at e, and less so far at f."""
    every = letters_of(base, 2)
    same = {("e", letter): "e" for letter in _twins(base)}
    less = {("e", letter): "f" for letter in every if letter[0] < letter[1]}
    later = {("f", letter): "f" for letter in every}
    return {**same, **less, **later}


def _comparing_table(base, ends):
    """The table that compares the numbers of both words and has these ends."""
    return Table(base, 2, "e", {key: {goal: 1} for key, goal in _compared(base).items()}, ends)


def _made(base, width, rows, ends):
    """The table with the start e and these steps, tuples (state, letter, weight, next state), none twice."""
    steps = {(state, letter): {} for state, letter, _, _ in rows}
    for state, letter, weight, goal in rows:
        steps[state, letter][goal] = weight
    return Table(base, width, "e", steps, ends)
