"""The errors of the package; each keeps its fields in attributes."""

from sumdigits.copies import kept


class SumError(ValueError):
    """The base of all errors of the package."""


class BadBase(SumError):
    """A value that is no base."""

    def __init__(self, value):
        self.value = kept(value)


class BadWidth(SumError):
    """A value that is no width that may stand there."""

    def __init__(self, value):
        self.value = kept(value)


class BadName(SumError):
    """A value that is no name."""

    def __init__(self, value):
        self.value = kept(value)


class BadWord(SumError):
    """A value that is no word."""

    def __init__(self, value):
        self.value = kept(value)


class BadNumber(SumError):
    """A value that is no number, or no rows of numbers, within its bounds."""

    def __init__(self, value):
        self.value = kept(value)


class BadWeight(SumError):
    """A value that is no weight."""

    def __init__(self, value):
        self.value = kept(value)


class BadLetter(SumError):
    """A value that is no letter."""

    def __init__(self, value):
        self.value = kept(value)


class BadPlace(SumError):
    """A value that is no place of a word."""

    def __init__(self, value):
        self.value = kept(value)


class BadTable(SumError):
    """No table, or a part of one that is wrong."""

    def __init__(self, part):
        self.part = kept(part)


class BadScheme(SumError):
    """No scheme, or a part of one that is wrong."""

    def __init__(self, part):
        self.part = kept(part)


class BadPlane(SumError):
    """No plane, or a part of one that is wrong."""

    def __init__(self, part):
        self.part = kept(part)


class BadPaper(SumError):
    """No paper of the kind that is asked."""

    def __init__(self, part):
        self.part = kept(part)


class BadStore(SumError):
    """No store."""

    def __init__(self, part):
        self.part = kept(part)


class BadDeed(SumError):
    """A deed that cannot be done, told by its index."""

    def __init__(self, at):
        self.at = kept(at)


class BadText(SumError):
    """A text that cannot be read, and where."""

    def __init__(self, line, word):
        self.line = kept(line)
        self.word = kept(word)


class BadCommand(SumError):
    """A line that is no command, and the word that shows it."""

    def __init__(self, word):
        self.word = kept(word)


class NoState(SumError):
    """A value that is no state."""

    def __init__(self, value):
        self.value = kept(value)


class NoEntry(SumError):
    """A value that is the number of no entry."""

    def __init__(self, value):
        self.value = kept(value)


class NoPlane(SumError):
    """A value that is the index of no plane."""

    def __init__(self, value):
        self.value = kept(value)


class Unlike(SumError):
    """What must go together, and does not in this part."""

    def __init__(self, part):
        self.part = kept(part)


class Taken(SumError):
    """A name that is taken."""

    def __init__(self, value):
        self.value = kept(value)


class Nothing(SumError):
    """There is nothing of what is asked."""


class TooMany(SumError):
    """More than the most that there may be."""

    def __init__(self, what, most):
        self.what = kept(what)
        self.most = kept(most)
