"""What the tests have in common: strict comparison, errors with their fields, slow reckoning, odd values."""

import itertools
import random

from sumdigits import errors
from sumdigits.alike import Apart
from sumdigits.cuts import Torn, Whole
from sumdigits.desk import Desk
from sumdigits.greatest import Covered, Uncovered
from sumdigits.judged import Right, Wrong
from sumdigits.noughts import Nought, Somewhere
from sumdigits.ranks import Rank
from sumdigits.schemes import Plane, Scheme
from sumdigits.spaces import Rows
from sumdigits.stores import GreatestStore, Store, SumStore
from sumdigits.tables import Table
from sumdigits.ways import OneWay, TwoWays

LESS_STEPS = [("e", "00", 1, "e"), ("e", "11", 1, "e"), ("e", "01", 1, "f"),
              ("f", "00", 1, "f"), ("f", "01", 1, "f"), ("f", "10", 1, "f"), ("f", "11", 1, "f")]


def equal(base):
    return Table.of(base, 2, "e", *[("e", digit + digit, 1, "e") for digit in "0123"[:base]], e=1)


def below(base, end=0):
    digits = "0123"[:base]
    steps = [("e", digit + digit, 1, "e") for digit in digits]
    steps += [("e", one + two, 1, "f") for one in digits for two in digits if one < two]
    steps += [("f", one + two, 1, "f") for one in digits for two in digits]
    return Table.of(base, 2, "e", *steps, e=end, f=1)


def at_most(base):
    return below(base, 1)


def size_table():
    return Table.of(2, 1, "a", ("a", "0", 1, "a"), ("a", "1", 1, "a"), ("a", "1", 1, "b"),
                    ("b", "0", 2, "b"), ("b", "1", 2, "b"), b=1)


def tree_scheme():
    change = Table.of(2, 2, "e", ("e", "00", 1, "e"), ("e", "11", 1, "e"), ("e", "00", 1, "f"),
                      ("f", "01", 1, "f"), ("f", "11", 1, "f"), f=1)
    question = Table.of(2, 2, "e", ("e", "00", 1, "e"), ("e", "11", 1, "e"), ("e", "10", 1, "f"),
                        ("f", "01", 1, "f"), ("f", "11", 1, "f"), f=1)
    return Scheme(Plane(change, question))


def some_function(value):
    return value


def odd_values():
    """Values of all kinds that the document lists; each one is wrong for most arguments."""
    return [None, True, False, -1, 5, 10 ** 59, "", "x", "E", "0", "5", "a b", "\n", (), (1,), ("e", "0"), [], [1],
            ["0", "1"], {}, {"e": 1}, {("e", "0"): {"e": True}}, some_function, size_table(), tree_scheme(),
            tree_scheme()[0], Rows.of(2, (1, 0)), Nought((), {}), Somewhere(("",), 1), Apart(("",), 0, 1),
            Right(((),), {}), Wrong("", "", 0, 7), Whole((), None), Torn("0", "0", "1", 10 ** 50), Rank(1, ((),), ()),
            Covered((((), ()),)), Uncovered("", "", True, True), OneWay(), TwoWays(("5",)), errors.BadBase(2),
            SumStore(tree_scheme(), 1), GreatestStore(tree_scheme(), 0), Desk()]


def same(one, other):
    """Equal, with equal kinds of values all the way down."""
    if type(one) is not type(other):
        return False
    if isinstance(one, (list, tuple)):
        return len(one) == len(other) and all(same(a, b) for a, b in zip(one, other))
    if isinstance(one, dict):
        return len(one) == len(other) and all(
            any(same(key, mate) and same(one[key], other[mate]) for mate in other) for key in one)
    return one is other or one == other


def snapshot(value):
    """A copy that what is done to the value does not reach."""
    if isinstance(value, (list, tuple)):
        return type(value)(snapshot(part) for part in value)
    if isinstance(value, dict):
        return {key: snapshot(part) for key, part in value.items()}
    if isinstance(value, Table):
        return ("table", value.base, value.width, value.start, value.states, snapshot(value.steps),
                snapshot(value.ends), str(value))
    if isinstance(value, Plane):
        return ("plane", snapshot(value.change), snapshot(value.question))
    if isinstance(value, Scheme):
        return ("scheme", value.base, snapshot(value.planes))
    if isinstance(value, Rows):
        return ("rows", value.width, tuple(value))
    if isinstance(value, Store):
        return ("store", type(value), value.length, value.entries, value.log, str(value.scheme),
                tuple(value.cells(plane) for plane in range(len(value.scheme))))
    return value


def assert_raises(test, error, fields, call, *args, **named):
    """The call raises just this error with just these fields, and changes no argument."""
    before = snapshot((args, named))
    try:
        told = call(*args, **named)
    except errors.SumError as caught:
        test.assertIs(type(caught), error, f"{caught!r} for {args!r} {named!r}")
        test.assertTrue(same(tuple(vars(caught).values()), tuple(fields)), f"{vars(caught)} for {args!r} {named!r}")
    else:
        test.fail(f"{told!r}, no {error.__name__}, for {args!r} {named!r}")
    test.assertTrue(same(snapshot((args, named)), before))


def assert_order(test, call, good, bads):
    """With any of the bad arguments at once the error of the first one in the list is raised.

    bads is a list of (dict of arguments, error, fields), in the order of the document.
    """
    for many in (1, 2, 3, len(bads)):
        for chosen in itertools.combinations(bads, min(many, len(bads))):
            named = dict(good)
            for changes, _, _ in reversed(chosen):
                named.update(changes)
            _, error, fields = chosen[0]
            assert_raises(test, error, fields, call, **named)


def letters_of(base, width):
    return ["".join(digits) for digits in itertools.product("0123"[:base], repeat=width)]


def words_of_length(base, length):
    return ["".join(digits) for digits in itertools.product("0123"[:base], repeat=length)]


def readings_of_length(base, width, length):
    return list(itertools.product(letters_of(base, width), repeat=length))


def slow_vector(table, reading):
    """The vector behind a reading, way by way."""
    numbers = {state: 0 for state in table.states}

    def walk(state, at, worth):
        if at == len(reading):
            numbers[state] += worth
            return
        for goal, weight in table.steps.get((state, reading[at]), {}).items():
            walk(goal, at + 1, worth * weight)

    walk(table.start, 0, 1)
    return numbers


def slow_value(table, reading):
    """The value at a reading, way by way."""
    return sum(number * table.ends.get(state, 0) for state, number in slow_vector(table, reading).items())


def slow_at(table, *words):
    """The value at words, way by way."""
    return slow_value(table, ["".join(digits) for digits in zip(*words)])


def random_table(dice, base, width, most=4, weights=(-2, -1, 1, 1, 2, 3), share=0.4):
    """A small table, often with useless states."""
    names = ["e", "f", "g", "h9", "i"][:dice.randint(1, most)]
    steps = {}
    for state in names:
        for letter in letters_of(base, width):
            goals = {goal: dice.choice(weights) for goal in names if dice.random() < share}
            steps[state, letter] = goals
    ends = {state: dice.choice(weights) for state in names if dice.random() < 0.6}
    return Table(base, width, dice.choice(names), steps, ends)


def is_trimmed(table):
    """Whether all states but the start are useful, and the start, too, or it is the only one."""
    ahead = {table.start}
    for _ in table.states:
        ahead |= {goal for (state, _), goals in table.steps.items() if state in ahead for goal in goals}
    useful = set(table.ends)
    for _ in table.states:
        useful |= {state for (state, _), goals in table.steps.items() if useful & set(goals)}
    return all(state in ahead and state in useful for state in table.states) or table.states == (table.start,)


def chain(many, base=2, width=1, weight=1, letter=None):
    """A table whose states stand in a row, with an end at the last one."""
    letter = "0" * width if letter is None else letter
    names = [f"c{at}" for at in range(many)]
    steps = [(names[at], letter, weight, names[at + 1]) for at in range(many - 1)]
    return Table.of(base, width, names[0], *steps, **{names[-1]: 1})


def ring(many, base=2, width=1, letter=None):
    """A table whose states stand in a ring; each has an end of its own."""
    letter = "0" * width if letter is None else letter
    names = [f"r{at}" for at in range(many)]
    steps = [(names[at], letter, 1, names[(at + 1) % many]) for at in range(many)]
    return Table.of(base, width, names[0], *steps, **{name: at + 1 for at, name in enumerate(names)})


def crowded(base, width, states, steps, ends=1, figures=20, seed=1):
    """A table with so many states and steps, chosen by dice, with weights of so many figures."""
    dice = random.Random(seed)
    names = [f"q{at}" for at in range(states)]
    keys = [(state, letter, goal) for state in names for letter in letters_of(base, width) for goal in names]
    weights = {}
    for state, letter, goal in dice.sample(keys, min(steps, len(keys))):
        weights.setdefault((state, letter), {})[goal] = dice.randint(10 ** (figures - 1), 10 ** figures - 1)
    return Table(base, width, names[0], weights, {name: dice.randint(1, 9) for name in names[:ends]})
