"""Looks at the papers of keeps_greatest."""

from sumdigits.checks import letters_of
from sumdigits.greatest import Covered, Uncovered, check_greatest
from sumdigits.moves import mask_of
from sumdigits.readings import are_words
from sumdigits.spots import Cover
from sumdigits.words import side_by_side


def shows_greatest(scheme, wanted, value):
    """Whether a value is a Covered whose pairs show it, or an Uncovered at which it is so."""
    check_greatest(scheme, wanted)
    cover = Cover(scheme, wanted)
    if isinstance(value, Covered):
        return _are_closed(cover, value.pairs, letters_of(scheme.base, 2))
    if not isinstance(value, Uncovered) or not isinstance(value.told, bool) or not isinstance(value.due, bool):
        return False
    if value.told == value.due or not are_words((value.entry, value.question), scheme.base):
        return False
    pair = cover.start
    for letter in side_by_side((value.entry, value.question)):
        pair = cover.moved(pair, letter)
    return cover.ends_at(pair) == (value.told, value.due)


def _are_closed(cover, pairs, letters):
    """Whether some pairs have that of the starts and those behind each of them, and none is odd."""
    places = _places_of(cover, pairs)
    if places is None or cover.start not in places:
        return False
    for pair in places:
        if cover.is_odd(pair) or not all([cover.moved(pair, letter) in places for letter in letters]):
            return False
    return True


def _places_of(cover, pairs):
    """A dict of True for the pairs of sets that any value tells, None for what is no tuple of pairs."""
    if not isinstance(pairs, tuple):
        return None
    spots = {text: at for at, text in enumerate(cover.spots.texts)}
    marks = {state: at for at, state in enumerate(cover.marks.states)}
    places = {}
    for pair in pairs:
        if not isinstance(pair, tuple) or len(pair) != 2:
            return None
        if not _are_ascending(pair[0], spots) or not _are_ascending(pair[1], marks):
            return None
        place = (mask_of([spots[text] for text in pair[0]]), mask_of([marks[state] for state in pair[1]]))
        places[place] = True
    return places


def _are_ascending(value, known):
    """Whether a value is an ascending tuple of texts that are known."""
    if not isinstance(value, tuple) or not all([isinstance(text, str) and text in known for text in value]):
        return False
    return all([one < other for one, other in zip(value, value[1:])])
