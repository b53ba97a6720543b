"""Walks: how vectors go on, letter by letter.

A vector is a dict from columns to numbers other than 0. A walk has `letters`, the ascending list of the letters by
which it goes on; `many`, how many numbers its vectors have in all; and `start`, the vector behind the empty reading.
`moved` tells the vector behind one letter more, `all_moved` the pairs of each letter and the vector behind it,
`end_of` what a vector ends in. Columns of another walk beside it play no part in what a walk tells.
"""

from sumdigits.checks import DIGITS, letters_of
from sumdigits.parts import ended, without_zeros

CHANGE = 0
QUESTION = 1
EQUAL = 0
ABOVE = 1
UNMARKED = 2


class TableWalk:
    """The states of tables over one base and of one width, for the sum of so many times their values."""

    def __init__(self, tables, signs):
        self.letters = letters_of(tables[0].base, tables[0].width)
        self.many = 0
        self.start = {}
        self.ends = {}
        self.hops = {letter: {} for letter in self.letters}
        for table, sign in zip(tables, signs):
            self.take_in(table, sign)

    def take_in(self, table, sign):
        """Give the states of one more table columns; they are below 0, those of planes are not."""
        columns = {state: -1 - self.many - at for at, state in enumerate(table.states)}
        ends = {columns[state]: end * sign for state, end in table.ends.items()}
        self.many = self.many + len(columns)
        self.start = {**self.start, columns[table.start]: 1}
        self.ends = {**self.ends, **ends}
        for (state, letter), goals in table.steps.items():
            self.hops[letter][columns[state]] = [(columns[goal], weight) for goal, weight in goals.items()]

    def moved(self, vector, letter):
        return hopped(vector, self.hops[letter])

    def all_moved(self, vector):
        return [(letter, hopped(vector, self.hops[letter])) for letter in self.letters]

    def end_of(self, vector):
        return ended(vector, self.ends)


class BackWalk:
    """The values of a table from each of its states on: readings grow by a letter ahead of them."""

    def __init__(self, table):
        ahead = TableWalk([table], [1])
        self.letters = ahead.letters
        self.start = ahead.ends
        self.hops = {letter: _turned(hops) for letter, hops in ahead.hops.items()}

    def moved(self, vector, letter):
        return hopped(vector, self.hops[letter])


def _turned(hops):
    """Hops the other way about."""
    found = {}
    for column, goals in hops.items():
        for goal, weight in goals:
            found.setdefault(goal, []).append((column, weight))
    return found


class PlaneSteps:
    """The pairs of a state of the change table and one of the question table, for each plane of a scheme.

    A spot is a tuple: the index of a plane, a state of its change table, a state of its question table, and two
    marks: how the digits of the cell so far stand to those of the entry, and to those of the question. Spots are
    given their columns when they are first come to, as most of them never are.
    """

    def __init__(self, scheme, mark):
        self.planes = scheme.planes
        self.digits = DIGITS[:scheme.base]
        self.pairs = sum([len(plane.change.states) * len(plane.question.states) for plane in self.planes])
        self.spots = []
        self.columns = {}
        self.known = {}
        self.start = {self.column_of((at, plane.change.start, plane.question.start, mark, mark)): 1
                      for at, plane in enumerate(self.planes)}

    def column_of(self, spot):
        if spot not in self.columns:
            self.columns[spot] = len(self.spots)
            self.spots.append(spot)
        return self.columns[spot]

    def hop(self, vector, side, letter):
        """The vector behind a step by a letter in the change tables alone, or in the question tables alone."""
        known = self.known.setdefault((side, letter), {})
        found = {}
        for column, number in vector.items():
            if column not in known:
                known[column] = self.goals_of(column, side, letter)
            for goal, weight in known[column]:
                found[goal] = found.get(goal, 0) + number * weight
        return found

    def goals_of(self, column, side, letter):
        """The pairs of a column and a weight to which a step leads."""
        if column < 0:
            return []
        at, state, mate, one, other = self.spots[column]
        if side == CHANGE:
            mark = _mark_behind(one, letter)
            goals = self.planes[at].change.steps.get((state, letter), {})
            found = [((at, goal, mate, mark, other), weight) for goal, weight in goals.items()]
        else:
            mark = _mark_behind(other, letter)
            goals = self.planes[at].question.steps.get((mate, letter), {})
            found = [((at, state, goal, one, mark), weight) for goal, weight in goals.items()]
        return [(self.column_of(spot), weight) for spot, weight in found if mark is not None]

    def halves(self, vector, entry):
        """The vectors behind steps in the change tables, by the digit of the cell."""
        return {cell: self.hop(vector, CHANGE, entry + cell) for cell in self.digits}

    def worth_of(self, column):
        """The product of both ends at a column."""
        at, state, mate, _, _ = self.spots[column]
        return self.planes[at].change.ends.get(state, 0) * self.planes[at].question.ends.get(mate, 0)


def _mark_behind(mark, letter):
    """The mark behind one digit more of an entry or a question and of a cell; None where the cell is less."""
    if mark != EQUAL:
        return mark
    if letter[1] < letter[0]:
        return None
    return ABOVE if letter[1] > letter[0] else EQUAL


class AnswerWalk:
    """The sums over all cells, for the values of the answer table of a scheme."""

    def __init__(self, scheme):
        self.letters = letters_of(scheme.base, 2)
        self.steps = PlaneSteps(scheme, UNMARKED)
        self.many = self.steps.pairs
        self.start = self.steps.start

    def moved(self, vector, letter):
        return self.joined(self.steps.halves(vector, letter[0]), letter[1])

    def all_moved(self, vector):
        halves = {digit: self.steps.halves(vector, digit) for digit in self.steps.digits}
        return [(letter, self.joined(halves[letter[0]], letter[1])) for letter in self.letters]

    def joined(self, halves, question):
        """The sum over all digits of the cell."""
        found = {}
        for cell, half in halves.items():
            for column, number in self.steps.hop(half, QUESTION, question + cell).items():
                found[column] = found.get(column, 0) + number
        return without_zeros(found)

    def end_of(self, vector):
        return sum([number * self.steps.worth_of(column) for column, number in vector.items() if column >= 0])


class JudgeWalk:
    """The answer table of a scheme less a wanted table."""

    def __init__(self, scheme, wanted):
        self.told = AnswerWalk(scheme)
        self.due = TableWalk([wanted], [-1])
        self.letters = self.told.letters
        self.many = self.told.many + self.due.many
        self.start = {**self.told.start, **self.due.start}

    def moved(self, vector, letter):
        return {**self.told.moved(vector, letter), **self.due.moved(vector, letter)}

    def all_moved(self, vector):
        due = dict(self.due.all_moved(vector))
        return [(letter, {**found, **due[letter]}) for letter, found in self.told.all_moved(vector)]

    def end_of(self, vector):
        return self.told.end_of(vector) + self.due.end_of(vector)


class CutWalk:
    """The lost part of a scheme: letters have the digits of the entry, the question and the cell."""

    def __init__(self, scheme):
        self.letters = letters_of(scheme.base, 3)
        self.steps = PlaneSteps(scheme, EQUAL)
        self.many = 4 * self.steps.pairs
        self.start = self.steps.start

    def moved(self, vector, letter):
        half = self.steps.hop(vector, CHANGE, letter[0] + letter[2])
        return without_zeros(self.steps.hop(half, QUESTION, letter[1:]))

    def all_moved(self, vector):
        halves = {digit: self.steps.halves(vector, digit) for digit in self.steps.digits}
        return [(letter, without_zeros(self.steps.hop(halves[letter[0]][letter[2]], QUESTION, letter[1:])))
                for letter in self.letters]

    def end_of(self, vector):
        return sum([number * self.steps.worth_of(column) for column, number in vector.items()
                    if self.steps.spots[column][3:] == (ABOVE, ABOVE)])


def hopped(vector, hops):
    """The vector behind a step; hops is a dict from columns to lists of pairs of a column and a weight."""
    found = {}
    for column, number in vector.items():
        for goal, weight in hops.get(column, []):
            found[goal] = found.get(goal, 0) + number * weight
    return without_zeros(found)


def vector_after(walk, vector, reading):
    """The vector behind more letters."""
    for letter in reading:
        vector = walk.moved(vector, letter)
    return vector


def vectors_behind(walk, readings):
    """The list of the vectors behind readings."""
    known = {(): walk.start}
    # Shorter readings come first, as longer ones often begin with them.
    for reading in sorted(readings, key=len):
        cut = len(reading)
        while reading[:cut] not in known:
            cut = cut - 1
        known[reading] = vector_after(walk, known[reading[:cut]], reading[cut:])
    return [known[reading] for reading in readings]
