"""Tables: their values, their changes, their texts, and their sums and products."""

from sumdigits.checks import check_base, check_length, is_between, is_integer, is_letter, is_name, letters_of
from sumdigits.errors import (
    BadBase, BadLetter, BadName, BadPlace, BadTable, BadText, BadWeight, BadWidth, NoState, Taken, TooMany, Unlike)
from sumdigits.parts import (
    added_steps, are_ends, are_steps, behind, ended, flat_steps, is_step, kept_steps, names_in, nested_steps,
    trimmed_parts, without_zeros)
from sumdigits.products import (
    bit_letters, linked_letters, mapped_parts, product_parts, same_letters, scaled_parts, sum_parts)
from sumdigits.table_text import read_parts, table_words, words_in
from sumdigits.words import check_words, side_by_side


class Table:
    """A finite table that tells a value for words of one length, as many as its width."""

    def __init__(self, base, width, start, steps, ends):
        check_head(base, width, start)
        if not are_steps(steps, base, width):
            raise BadTable("steps")
        if not are_ends(ends):
            raise BadTable("ends")
        self.base = base
        self.width = width
        self.start = start
        self.steps = kept_steps(steps)
        self.ends = without_zeros(ends)
        self.states = names_in(start, self.steps, self.ends)
        if len(self.states) > 40:
            raise TooMany("states", 40)
        if sum([len(goals) for goals in self.steps.values()]) > 2000:
            raise TooMany("steps", 2000)

    @staticmethod
    def of(base, width, start, *steps, **ends):
        """The table of tuples (state, letter, weight, next state), and of ends by the names of their states."""
        check_head(base, width, start)
        for step in steps:
            if not is_step(step, base, width):
                raise BadTable("step")
        return Table(base, width, start, nested_steps(added_steps(steps)), ends)

    @classmethod
    def read(cls, text):
        """The table with this text."""
        words = words_in(text)
        at, parts = read_parts(words, 0, [2, 3, 4], [0, 1, 2, 3])
        if at < len(words):
            raise BadText(0, at)
        base, width, start, steps, ends = parts
        return cls(base, width, start, steps, ends)

    def __str__(self):
        return " ".join(table_words(self))

    def __eq__(self, other):
        return (isinstance(other, Table) and self.base == other.base and self.width == other.width
                and self.start == other.start and self.steps == other.steps and self.ends == other.ends)

    def __len__(self):
        return len(self.states)

    def __iter__(self):
        return iter(self.states)

    def __contains__(self, x):
        return isinstance(x, str) and any([letter == x for _, letter in self.steps])

    def tell(self, *words):
        """The value at words of one length, as many as the width."""
        if self.width == 0:
            raise BadWidth(0)
        if len(words) != self.width:
            raise Unlike("width")
        check_words(words, self.base)
        vector = {self.start: 1}
        for letter in side_by_side(words):
            vector = behind(self.steps, vector, letter)
        return ended(vector, self.ends)

    def __getitem__(self, at):
        if isinstance(at, tuple):
            return self.tell(*at)
        if self.width == 0 or isinstance(at, str):
            return self.tell(at)
        raise Unlike("width")

    def total(self, length):
        """The sum of the values at all words of so many digits."""
        check_length(length)
        merged = nested_steps(added_steps([(state, "", weight, goal)
                                           for (state, _, goal), weight in flat_steps(self.steps).items()]))
        vector = {self.start: 1}
        for _ in range(length):
            vector = behind(merged, vector, "")
        return ended(vector, self.ends)

    def with_step(self, state, letter, weight, to):
        """The table with this weight of the step."""
        if not is_name(state):
            raise BadName(state)
        if not is_letter(letter, self.base, self.width):
            raise BadLetter(letter)
        if not is_integer(weight):
            raise BadWeight(weight)
        if not is_name(to):
            raise BadName(to)
        flat = flat_steps(self.steps)
        steps = nested_steps({**flat, (state, letter, to): weight})
        return Table(self.base, self.width, self.start, steps, self.ends)

    def with_end(self, state, weight):
        """The table with this weight of the end."""
        if not is_name(state):
            raise BadName(state)
        if not is_integer(weight):
            raise BadWeight(weight)
        ends = {**self.ends, state: weight}
        return Table(self.base, self.width, self.start, self.steps, ends)

    def begun(self, state):
        """The table with another start."""
        return Table(self.base, self.width, state, self.steps, self.ends)

    def renamed(self, old, new):
        """The table with another name of a state."""
        if not isinstance(old, str) or old not in self.states:
            raise NoState(old)
        if not is_name(new):
            raise BadName(new)
        if new in self.states:
            raise Taken(new)
        names = {state: new if state == old else state for state in self.states}
        flat = {(names[state], letter, names[goal]): weight
                for (state, letter, goal), weight in flat_steps(self.steps).items()}
        ends = {names[state]: weight for state, weight in self.ends.items()}
        return Table(self.base, self.width, names[self.start], nested_steps(flat), ends)

    def trimmed(self):
        """The table without useless states."""
        steps, ends = trimmed_parts(self.start, flat_steps(self.steps), self.ends)
        return Table(self.base, self.width, self.start, nested_steps(steps), ends)

    def __add__(self, other):
        check_other(self, other)
        start, steps, ends = sum_parts(self, other, 1)
        return Table(self.base, self.width, start, steps, ends)

    def __sub__(self, other):
        check_other(self, other)
        start, steps, ends = sum_parts(self, other, -1)
        return Table(self.base, self.width, start, steps, ends)

    def __mul__(self, other):
        if is_integer(other):
            start, steps, ends = scaled_parts(self, other)
        else:
            check_other(self, other)
            start, steps, ends = product_parts(self, other, same_letters(self.base, self.width))
        return Table(self.base, self.width, start, steps, ends)

    def __rmul__(self, other):
        if not is_integer(other):
            raise BadTable("other")
        return self * other

    def __neg__(self):
        return self * -1

    def __invert__(self):
        letters = letters_of(self.base, self.width)
        start, steps, ends = mapped_parts(self, [(letter, letter[::-1]) for letter in letters])
        return Table(self.base, self.width, start, steps, ends)

    def __rshift__(self, other):
        check_other(self, other)
        if self.width != 2:
            raise BadWidth(self.width)
        start, steps, ends = product_parts(self, other, linked_letters(self.base))
        return Table(self.base, 2, start, steps, ends)

    def __or__(self, other):
        check_other(self, other)
        if self.base != 2:
            raise BadBase(self.base)
        start, steps, ends = product_parts(self, other, bit_letters(self.width))
        return Table(4, self.width, start, steps, ends)

    def summed(self, place):
        """The table without a place, with the sums over all words there."""
        if not is_between(place, 0, self.width - 1):
            raise BadPlace(place)
        letters = letters_of(self.base, self.width)
        start, steps, ends = mapped_parts(self, [(letter, letter[:place] + letter[place + 1:]) for letter in letters])
        return Table(self.base, self.width - 1, start, steps, ends)

    def placed(self, width, *places):
        """The table of this width whose value is that at the words of the told places, in this order."""
        if not is_between(width, self.width, 3):
            raise BadWidth(width)
        if len(places) != self.width:
            raise Unlike("places")
        for at, place in enumerate(places):
            if not is_between(place, 0, width - 1) or place in places[:at]:
                raise BadPlace(place)
        letters = letters_of(self.base, width)
        pairs = [("".join([letter[spot] for spot in places]), letter) for letter in letters]
        start, steps, ends = mapped_parts(self, pairs)
        return Table(self.base, width, start, steps, ends)


def check_head(base, width, start):
    """Refuse what is no base, no width or no name of a start."""
    check_base(base)
    if not is_between(width, 0, 3):
        raise BadWidth(width)
    if not is_name(start):
        raise BadName(start)


def check_table(value, name):
    """Refuse a parameter of this name that is no table."""
    if not isinstance(value, Table):
        raise BadTable(name)


def has_weight_below_0(table):
    """Whether some step or some end has a weight below 0."""
    if any([weight < 0 for weight in table.ends.values()]):
        return True
    return any([weight < 0 for goals in table.steps.values() for weight in goals.values()])


def check_alike(one, other):
    """Refuse tables that do not go together."""
    if one.base != other.base:
        raise Unlike("base")
    if one.width != other.width:
        raise Unlike("width")


def check_other(one, other):
    """Refuse what cannot stand on the right of a sign between tables."""
    check_table(other, "other")
    check_alike(one, other)
