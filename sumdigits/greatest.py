"""Whether a scheme answers what is wanted in stores that keep the greatest, for all lengths, and where it does not."""

from sumdigits.checks import letters_of
from sumdigits.copies import kept
from sumdigits.errors import BadTable, TooMany
from sumdigits.moves import Trail, bits_of
from sumdigits.papers import Verdict
from sumdigits.schemes import check_wanted, check_weights
from sumdigits.spots import Cover
from sumdigits.tables import has_weight_below_0
from sumdigits.words import parted_letters


class Covered(Verdict):
    """Each answer is the greatest of the wanted entries: shown by all pairs of spots and marks."""

    def __init__(self, pairs):
        self.pairs = kept(pairs)

    def __eq__(self, other):
        return isinstance(other, Covered) and self.pairs == other.pairs

    def __bool__(self):
        return True


class Uncovered(Verdict):
    """For the entry and the question it is told whether there is a cell, and otherwise due."""

    def __init__(self, entry, question, told, due):
        self.entry = kept(entry)
        self.question = kept(question)
        self.told = kept(told)
        self.due = kept(due)

    def __eq__(self, other):
        return (isinstance(other, Uncovered) and self.entry == other.entry and self.question == other.question
                and self.told == other.told and self.due == other.due)

    def __bool__(self):
        return False


def keeps_greatest(scheme, wanted):
    """A Covered if each answer is the greatest of the wanted entries, otherwise an Uncovered of the least words."""
    check_greatest(scheme, wanted)
    if sum([len(plane.change.states) * len(plane.question.states) for plane in scheme.planes]) > 400:
        raise TooMany("numbers", 400)
    cover = Cover(scheme, wanted)
    trail = Trail(cover.start)
    odd = _first_odd(cover, trail, letters_of(scheme.base, 2))
    if odd is None:
        return Covered(tuple([_told_pair(cover, pair) for pair in trail.places]))
    entry, question = parted_letters(trail.letters_to(odd), 2)
    told, due = cover.ends_at(trail.places[odd])
    return Uncovered(entry, question, told, due)


def check_greatest(scheme, wanted):
    """Refuse what is no scheme, no wanted table, what does not go together, and weights below 0."""
    check_wanted(scheme, wanted)
    check_weights(scheme)
    if has_weight_below_0(wanted):
        raise BadTable("weights")


def _first_odd(cover, trail, letters):
    """Put all pairs on the trail, up to the first odd one; the index of this one, or None."""
    if cover.is_odd(cover.start):
        return 0
    seen = {cover.start: True}
    at = 0
    while at < len(trail.places):
        for letter in letters:
            pair = cover.moved(trail.places[at], letter)
            if pair not in seen:
                if len(trail.places) == 500:
                    raise TooMany("pairs", 500)
                seen[pair] = True
                trail.put(pair, at, letter)
                if cover.is_odd(pair):
                    return len(trail.places) - 1
        at = at + 1
    return None


def _told_pair(cover, pair):
    """A pair of sets as the pair of the texts of the spots and of the names of the marks."""
    spots = sorted([str(cover.spots.texts[at]) for at in bits_of(pair[0])])
    return tuple(spots), tuple([cover.marks.states[at] for at in bits_of(pair[1])])
