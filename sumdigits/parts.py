"""Steps and ends as plain dicts: what tables are checked, made and counted by.

Nested steps are dicts from pairs (state, letter) to dicts from next states to weights, as a table keeps them.
Flat steps are dicts from triples (state, letter, next state) to weights: their states can be any keys.
"""

from sumdigits.checks import is_integer, is_letter, is_name


def are_ends(value):
    """Whether a value is a dict from names to integers."""
    return isinstance(value, dict) and _are_names(list(value)) and _are_integers(list(value.values()))


def are_steps(value, base, width):
    """Whether a value is a dict of nested steps by letters of the width in the base."""
    if not isinstance(value, dict):
        return False
    for key, goals in value.items():
        if not isinstance(key, tuple) or len(key) != 2 or not isinstance(goals, dict):
            return False
    # Names and letters come up again and again: each of them is looked at once.
    letters = {letter: True for _, letter in value}
    names = {state: True for state, _ in value}
    goal_names = {goal: True for goals in value.values() for goal in goals}
    return (all([is_letter(letter, base, width) for letter in letters])
            and _are_names(list(names)) and _are_names(list(goal_names))
            and all([isinstance(weight, int) and not isinstance(weight, bool)
                     for goals in value.values() for weight in goals.values()]))


def _are_names(values):
    return all([is_name(value) for value in values])


def _are_integers(values):
    return all([is_integer(value) for value in values])


def is_step(value, base, width):
    """Whether a value is a tuple (state, letter, weight, next state)."""
    return (isinstance(value, tuple) and len(value) == 4
            and is_name(value[0]) and is_letter(value[1], base, width)
            and is_integer(value[2]) and is_name(value[3]))


def without_zeros(weights):
    """The weights other than 0, as a new dict."""
    return {key: weights[key] for key in weights if weights[key] != 0}


def kept_steps(steps):
    """A copy of nested steps without weights of 0, and without pairs for which no step is left."""
    kept = {key: dict(goals) if all(goals.values()) else without_zeros(goals) for key, goals in steps.items()}
    return kept if all(kept.values()) else {key: kept[key] for key in kept if len(kept[key]) > 0}


def flat_steps(steps):
    """Nested steps as flat ones."""
    return {(state, letter, goal): weight
            for (state, letter), goals in steps.items() for goal, weight in goals.items()}


def nested_steps(flat):
    """Flat steps as nested ones."""
    steps = {(state, letter): {} for state, letter, _ in flat}
    for (state, letter, goal), weight in flat.items():
        steps[state, letter][goal] = weight
    return steps


def added_steps(rows):
    """Flat steps of tuples (state, letter, weight, next state): equal ones are one, with the sum of the weights."""
    found = {}
    for state, letter, weight, goal in rows:
        key = (state, letter, goal)
        found[key] = found.get(key, 0) + weight
    return without_zeros(found)


def names_in(start, steps, ends):
    """The ascending tuple of all names in the parts of a table."""
    names = {start: True}
    for (state, _), goals in steps.items():
        names[state] = True
        for goal in goals:
            names[goal] = True
    for state in ends:
        names[state] = True
    return tuple(sorted([str(name) for name in names]))


def behind(steps, vector, letter):
    """The vector behind one letter more; vectors are dicts that may lack states with the number 0."""
    found = {}
    for state, number in vector.items():
        goals = steps.get((state, letter), {})
        for goal, weight in goals.items():
            found[goal] = found.get(goal, 0) + number * weight
    return found


def ended(vector, ends):
    """What a vector ends in: the sum of its numbers times the ends of their states."""
    return sum([number * ends.get(state, 0) for state, number in vector.items()])


def reached_from(states, goals):
    """A dict of True for the states that can be come to by goals, a dict from states to lists of states."""
    seen = {state: True for state in states}
    queue = list(seen)
    at = 0
    while at < len(queue):
        for goal in goals.get(queue[at], []):
            if goal not in seen:
                seen[goal] = True
                queue.append(goal)
        at = at + 1
    return seen


def _sources_of(goals, reached):
    sources = {state: [] for state in reached}
    for state in reached:
        for goal in goals.get(state, []):
            sources[goal].append(state)
    return sources


def useful_states(start, goals, ends):
    """A dict of True for the states that some way from the start to a state with an end passes."""
    reached = reached_from([start], goals)
    return reached_from([state for state in ends if state in reached], _sources_of(goals, reached))


def goals_by_state(flat):
    """The dict from states to the lists of the states to which their flat steps lead."""
    goals = {state: [] for state, _, _ in flat}
    for state, _, goal in flat:
        goals[state].append(goal)
    return goals


def trimmed_parts(start, flat, ends):
    """The flat steps and the ends that are left without useless states but the start."""
    useful = useful_states(start, goals_by_state(flat), ends)
    left = {**useful, start: True}
    steps = {key: flat[key] for key in flat if key[0] in left and key[2] in left}
    return steps, {state: ends[state] for state in ends if state in left}
