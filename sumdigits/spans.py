"""The first readings ahead and behind of a table whose vectors do not depend on those of the readings before them.

All vectors are combinations of theirs, so nothing is lost by asking these readings alone.
"""

from sumdigits.bases import FIRST_PRIME, Basis, taken
from sumdigits.walks import BackWalk, TableWalk


def readings_ahead(table):
    """The list of the pairs of such a reading and the vector behind it, shortest first, then in Python's order."""
    walk = TableWalk([table], [1])
    basis = Basis(FIRST_PRIME)
    kept = _kept_of(basis, [((), walk.start)], walk.many)
    found = kept
    while len(kept) > 0:
        row = [(reading + (letter,), further) for reading, vector in kept for letter, further in walk.all_moved(vector)]
        kept = _kept_of(basis, row, walk.many)
        found = found + kept
    return found


def readings_behind(table):
    """Likewise of readings behind, with the values from each state on."""
    walk = BackWalk(table)
    basis = Basis(FIRST_PRIME)
    kept = _kept_of(basis, [((), walk.start)], len(table.states))
    found = kept
    while len(kept) > 0:
        row = [((letter,) + reading, walk.moved(vector, letter)) for letter in walk.letters for reading, vector in kept]
        kept = _kept_of(basis, row, len(table.states))
        found = found + kept
    return found


def _kept_of(basis, row, most):
    """Those of some pairs of a reading and a vector by which the basis grows, as long as it has less than the most."""
    kept = []
    for reading, vector in row:
        if len(basis.rows) < most and taken(basis, vector) is None:
            kept.append((reading, vector))
    return kept
