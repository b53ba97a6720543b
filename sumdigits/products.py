"""Sums and products of tables, as the parts of new ones: start, nested steps and ends, trimmed.

A product goes by links, a dict from letters to lists of pairs of letters: one step by the letter for each step
of one table by the first and each of the other table by the second letter of one of its pairs.
"""

from sumdigits.checks import DIGITS, letters_of
from sumdigits.errors import TooMany
from sumdigits.parts import flat_steps, nested_steps, trimmed_parts, useful_states, without_zeros

BITS = {"0": "00", "1": "01", "2": "10", "3": "11"}
NEW = (2, "")


def same_letters(base, width):
    """The links of the product at the same words."""
    return {letter: [(letter, letter)] for letter in letters_of(base, width)}


def linked_letters(base):
    """The links of the sum over the words between two words."""
    digits = DIGITS[:base]
    return {one + other: [(one + link, link + other) for link in digits] for one in digits for other in digits}


def bit_letters(width):
    """The links of the product over base 4 of tables over base 2."""
    return {letter: [(_bits_of(letter, 0), _bits_of(letter, 1))] for letter in letters_of(4, width)}


def _bits_of(letter, at):
    return "".join([BITS[digit][at] for digit in letter])


def _marked_steps(table, mark):
    """The flat steps of a table, with marked states."""
    return {((mark, state), letter, (mark, goal)): weight
            for (state, letter, goal), weight in flat_steps(table.steps).items()}


def _marked_ends(table, mark, sign):
    """The ends of a table times the sign, with marked states."""
    return {(mark, state): weight * sign for state, weight in table.ends.items()}


def sum_parts(one, other, sign):
    """The parts of one table plus the other one times the sign."""
    first = _marked_steps(one, 0)
    second = _marked_steps(other, 1)
    flat = {**first, **second}
    starts = ((0, one.start), (1, other.start))
    ahead = {(NEW, letter, goal): flat[state, letter, goal] for state, letter, goal in flat if state in starts}
    end = one.ends.get(one.start, 0) + other.ends.get(other.start, 0) * sign
    first_ends = _marked_ends(one, 0, 1)
    second_ends = _marked_ends(other, 1, sign)
    ends = without_zeros({**first_ends, **second_ends, NEW: end})
    return named_parts(NEW, {**flat, **ahead}, ends)


def product_parts(one, other, links):
    """The parts of the product of two tables that goes by the links."""
    start = (one.start, other.start)
    ends = {(state, mate): weight * end for state, weight in one.ends.items() for mate, end in other.ends.items()}
    useful = useful_states(start, _goals_by_pair(one, other, links), ends)
    left = {**useful, start: True}
    if len(left) > 40:
        raise TooMany("states", 40)
    flat = {(pair, letter, goal): weight for pair in left for letter in links
            for goal, weight in _goals_behind(one, other, links[letter], pair).items()}
    return named_parts(start, flat, ends)


def _goals_behind(one, other, links, pair):
    """The weights of the steps from a pair of states by pairs of letters, by the pairs to which they lead."""
    found = {}
    for first, second in links:
        goals = one.steps.get((pair[0], first), {})
        others = other.steps.get((pair[1], second), {})
        for goal, weight in goals.items():
            for mate, factor in others.items():
                key = (goal, mate)
                found[key] = found.get(key, 0) + weight * factor
    return without_zeros(found)


def _goals_by_pair(one, other, links):
    """The goals of all pairs that can be come to; the weights are left out, as there can be millions of steps."""
    goals = {}
    queue = [(one.start, other.start)]
    seen = {queue[0]: True}
    at = 0
    while at < len(queue):
        found = {goal: True for letter in links for goal in _goals_behind(one, other, links[letter], queue[at])}
        goals[queue[at]] = list(found)
        for goal in found:
            if goal not in seen:
                seen[goal] = True
                queue.append(goal)
        at = at + 1
    return goals


def named_parts(start, flat, ends):
    """The start, the nested steps and the ends of what is left when trimmed, with names for the states."""
    steps, left = trimmed_parts(start, flat, ends)
    goals = {goal: True for _, _, goal in steps}
    keys = {start: True, **goals}
    names = {key: f"s{at}" for at, key in enumerate(keys)}
    named = {(names[state], letter, names[goal]): weight for (state, letter, goal), weight in steps.items()}
    return names[start], nested_steps(named), {names[state]: weight for state, weight in left.items()}


def mapped_parts(table, pairs):
    """The parts with the steps by each first letter of the pairs as steps by the second one; names stay."""
    followers = {first: [after for ahead, after in pairs if ahead == first] for first, _ in pairs}
    found = {}
    for (state, letter, goal), weight in flat_steps(table.steps).items():
        for follower in followers[letter]:
            key = (state, follower, goal)
            found[key] = found.get(key, 0) + weight
    steps, ends = trimmed_parts(table.start, without_zeros(found), table.ends)
    return table.start, nested_steps(steps), ends


def scaled_parts(table, number):
    """The parts of so many times a table."""
    ends = without_zeros({state: weight * number for state, weight in table.ends.items()})
    steps, left = trimmed_parts(table.start, flat_steps(table.steps), ends)
    return table.start, nested_steps(steps), left
