"""Pairs of ways of one reading, by which it is told whether a reading has two ways to an end."""

from sumdigits.moves import Moves, bits_of


class Forks:
    """Pairs of ways of a table by one reading, in groups by their least readings.

    A group is a pair: the set of the states to which two ways lead that are the same so far, and a dict from the
    indexes of states to sets of states: two ways that have parted lead to both. What is in a group already is left
    out of later ones, so that each pair of states is gone on from once.
    """

    def __init__(self, table):
        self.moves = Moves(table)
        self.start = (self.moves.start, {})
        self.alone_seen = self.moves.start
        self.parted_seen = {}

    def moved(self, group, letter):
        """The group behind one letter more of what has not been come to so far; None without any."""
        alone, mates = group
        found = self.forked(alone, letter)
        for at, mask in mates.items():
            further = self.moves.moved(mask, letter)
            if further != 0:
                for goal in self.moves.goals.get((at, letter), []):
                    found[goal] = found.get(goal, 0) | further
        return self.taken_in(self.moves.moved(alone, letter), found)

    def forked(self, alone, letter):
        """The pairs of states at which two ways that are the same so far part."""
        found = {}
        for at in bits_of(alone):
            mask = self.moves.masks.get((at, letter), 0)
            for goal in self.moves.goals.get((at, letter), []):
                found[goal] = found.get(goal, 0) | (mask ^ (1 << goal))
        return found

    def taken_in(self, alone, mates):
        """The group of what is new of some states and pairs."""
        new = alone & ~self.alone_seen
        self.alone_seen = self.alone_seen | new
        found = {}
        for at, mask in mates.items():
            rest = mask & ~self.parted_seen.get(at, 0)
            if rest != 0:
                found[at] = rest
                self.parted_seen[at] = self.parted_seen.get(at, 0) | rest
        if new == 0 and len(found) == 0:
            return None
        return new, found

    def is_told(self, group):
        """Whether two ways that have parted lead to states with ends."""
        return any([(mask & self.moves.ends) != 0 and ((1 << at) & self.moves.ends) != 0
                    for at, mask in group[1].items()])
