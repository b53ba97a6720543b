"""The words of the text of a table, written and read."""

from sumdigits.checks import is_letter, is_name, letters_of
from sumdigits.errors import BadText
from sumdigits.numerals import figures_of, number_in
from sumdigits.parts import nested_steps


def table_words(table):
    """The list of the words that write a table."""
    words = [str(table.base), str(table.width), table.start]
    for state in table.states:
        for letter in letters_of(table.base, table.width):
            goals = table.steps.get((state, letter), {})
            words.extend([f"{state}:{letter}*{figures_of(goals[goal])}>{goal}"
                          for goal in table.states if goal in goals])
    words.extend([f"{state}={figures_of(table.ends[state])}" for state in table.states if state in table.ends])
    return words


def words_in(text):
    """The list of the words of a text."""
    if not isinstance(text, str):
        raise BadText(0, 0)
    return text.split(" ")


def word_at(words, at):
    """The word at an index."""
    if at >= len(words):
        raise BadText(0, len(words))
    return words[at]


def read_parts(words, at, bases, widths):
    """The index behind the words of a table, and its five parts, if they begin at this index.

    The bases and the widths are lists of the numbers that can stand for them. What cannot stand
    behind the words of the table is left to the caller: it is at the index that is returned.
    """
    base = _listed_number(words, at, bases)
    width = _listed_number(words, at + 1, widths)
    start = word_at(words, at + 2)
    if not is_name(start):
        raise BadText(0, at + 2)
    behind_steps, steps = _read_steps(words, at + 3, base, width)
    behind_ends, ends = _read_ends(words, behind_steps)
    return behind_ends, (base, width, start, steps, ends)


def _listed_number(words, at, numbers):
    word = word_at(words, at)
    for number in numbers:
        if word == str(number):
            return number
    raise BadText(0, at)


def _read_steps(words, at, base, width):
    """The index behind the ascending steps from an index on, and the nested steps."""
    flat = {}
    last = ("", "", "")
    while at < len(words):
        step = _step_in(words[at], base, width)
        if step is None or step[0] <= last:
            break
        last, weight = step
        flat[last] = weight
        at = at + 1
    return at, nested_steps(flat)


def _read_ends(words, at):
    """The index behind the ascending ends from an index on, and the ends."""
    ends = {}
    last = ""
    while at < len(words):
        state, _, figures = words[at].partition("=")
        weight = _weight_in(figures)
        if not is_name(state) or weight is None or state <= last:
            break
        last = state
        ends[state] = weight
        at = at + 1
    return at, ends


def _step_in(word, base, width):
    """The pair of (state, letter, next state) and the weight that a word writes, or None."""
    state, _, rest = word.partition(":")
    letter, _, tail = rest.partition("*")
    figures, _, goal = tail.partition(">")
    weight = _weight_in(figures)
    if not is_name(state) or not is_letter(letter, base, width) or weight is None or not is_name(goal):
        return None
    return (state, letter, goal), weight


def _weight_in(text):
    """The integer other than 0 of at most 40 figures that a text writes, or None."""
    number = number_in(text, 40)
    return None if number == 0 else number
