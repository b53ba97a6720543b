"""Whether a scheme is right for a wanted table, for all lengths, and where it is not."""

from sumdigits.closing import search
from sumdigits.copies import kept
from sumdigits.papers import Verdict
from sumdigits.schemes import check_scheme, check_wanted
from sumdigits.walks import AnswerWalk, JudgeWalk, vector_after
from sumdigits.words import check_words, side_by_side, words_of


class Right(Verdict):
    """The scheme answers what is wanted: the readings are closed with the factors."""

    def __init__(self, readings, factors):
        self.readings = kept(readings)
        self.factors = kept(factors)

    def __eq__(self, other):
        return isinstance(other, Right) and self.readings == other.readings and self.factors == other.factors

    def __bool__(self):
        return True


class Wrong(Verdict):
    """For the entry and the question the answer table tells another number than is due."""

    def __init__(self, entry, question, told, due):
        self.entry = kept(entry)
        self.question = kept(question)
        self.told = kept(told)
        self.due = kept(due)

    def __eq__(self, other):
        return (isinstance(other, Wrong) and self.entry == other.entry and self.question == other.question
                and self.told == other.told and self.due == other.due)

    def __bool__(self):
        return False


def judge(scheme, wanted):
    """A Right if the scheme answers what is wanted, otherwise a Wrong of the least entry and question."""
    check_wanted(scheme, wanted)
    found = search(JudgeWalk(scheme, wanted))
    if found.odd is None:
        return Right(tuple(found.readings), found.all_factors())
    entry, question = words_of(found.odd, 2)
    return Wrong(entry, question, told_at(scheme, entry, question), wanted.tell(entry, question))


def told_at(scheme, entry, question):
    """What the answer table tells, reckoned by the tables of the planes alone."""
    check_scheme(scheme, "scheme")
    check_words((entry, question), scheme.base)
    walk = AnswerWalk(scheme)
    return walk.end_of(vector_after(walk, walk.start, side_by_side((entry, question))))
