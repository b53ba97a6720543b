"""Schemes for two columns beside one another: words of base 4 for pairs of words of base 2."""

from sumdigits.errors import BadBase, BadWord, TooMany
from sumdigits.products import BITS
from sumdigits.schemes import Plane, Scheme, check_scheme
from sumdigits.words import is_word


def pair_word(one, other):
    """The word of base 4 for two words of base 2 of one length."""
    for word in (one, other):
        if not is_word(word, 2) or len(word) != len(one):
            raise BadWord(word)
    return "".join([str(2 * int(first) + int(second)) for first, second in zip(one, other)])


def parted(word):
    """The pair of the words of base 2 for a word of base 4."""
    if not is_word(word, 4):
        raise BadWord(word)
    return "".join([BITS[digit][0] for digit in word]), "".join([BITS[digit][1] for digit in word])


def beside(one, other):
    """The scheme of base 4 that answers questions for both columns at once."""
    check_scheme(one, "one")
    check_scheme(other, "other")
    for scheme in (one, other):
        if scheme.base != 2:
            raise BadBase(scheme.base)
    if len(one) * len(other) > 8:
        raise TooMany("planes", 8)
    planes = [Plane(plane.change | mate.change, plane.question | mate.question)
              for plane in one.planes for mate in other.planes]
    return Scheme(*planes)
