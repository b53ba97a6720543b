"""The steps of a table for sets of its states.

A set is an integer whose bits stand for the states: the state of index n among the states of the table, ascending,
is the bit 1 << n. So many states are led on at once.
"""


class Moves:
    """The steps of a table by the indexes of its states. `goals` has for pairs (index, letter) the list of the
    indexes to which steps lead, `masks` the same as a set; `start` and `ends` are sets."""

    def __init__(self, table):
        self.states = table.states
        indexes = {state: at for at, state in enumerate(table.states)}
        self.goals = {(indexes[state], letter): [indexes[goal] for goal in goals]
                      for (state, letter), goals in table.steps.items()}
        self.masks = {key: mask_of(goals) for key, goals in self.goals.items()}
        self.start = 1 << indexes[table.start]
        self.ends = mask_of([indexes[state] for state in table.ends])
        self.known = {}

    def moved(self, mask, letter):
        """The set of the states to which steps by the letter lead from a set."""
        key = (mask, letter)
        if key not in self.known:
            found = 0
            for at in bits_of(mask):
                found = found | self.masks.get((at, letter), 0)
            self.known[key] = found
        return self.known[key]


def mask_of(indexes):
    """The set of some indexes."""
    found = 0
    for at in indexes:
        found = found | (1 << at)
    return found


def bits_of(mask):
    """The ascending list of the indexes in a set."""
    found = []
    rest = mask
    while rest != 0:
        low = rest & -rest
        found.append(low.bit_length() - 1)
        rest = rest ^ low
    return found


class Trail:
    """Places, in the order of the least words that lead to them."""

    def __init__(self, start):
        self.places = [start]
        self.links = [(None, "")]

    def put(self, place, ahead, letter):
        """Put a place behind the others, to which the letter leads from the place of the index ahead."""
        self.places.append(place)
        self.links.append((ahead, letter))

    def letters_to(self, at):
        """The list of the letters that lead to the place of this index."""
        letters = []
        ahead, letter = self.links[at]
        while ahead is not None:
            letters.append(letter)
            ahead, letter = self.links[ahead]
        return letters[::-1]
