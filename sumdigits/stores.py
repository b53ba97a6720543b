"""Live stores: entries, the cells that a scheme keeps beside them, and what questions are answered."""

from sumdigits.checks import is_between, power
from sumdigits.errors import BadDeed, BadNumber, NoEntry, NoPlane, Nothing, SumError, TooMany, Unlike
from sumdigits.grids import Grid, Plan
from sumdigits.kinds import Greatest, Sums, gathered
from sumdigits.moments import Trial, changed_moment, deeds_to, exchanged_moment, first_moment
from sumdigits.numerals import figures_of, number_in
from sumdigits.schemes import check_scheme, check_wanted


class Store:
    """What both kinds of stores have in common; each of them has all methods of the interface in its own body.

    `_kind` reckons as the kind of the store does, and `_now` is the moment that the store has come to.
    """

    def _begin(self, kind, scheme, length, size):
        """Make all of a new store, which is refused if anything is wrong."""
        check_scheme(scheme, "scheme")
        kind.check_model(scheme)
        if not is_between(length, 0, 8):
            raise BadNumber(length)
        most = power(scheme.base, length)
        if most > 256:
            raise TooMany("entries", 256)
        if size is not None and not is_between(size, 1, most):
            raise BadNumber(size)
        many = most if size is None else size
        self._kind = kind
        self._now = first_moment(kind, Plan(scheme, length, many), (0,) * many)

    def _check_entry(self, value):
        if not is_between(value, 0, len(self._now.column) - 1):
            raise NoEntry(value)

    def _entry_at(self, at):
        self._check_entry(at)
        return self._now.column[at]

    def _put(self, at, worth):
        """Give an entry another amount."""
        if not self._kind.is_amount(worth, self._entry_at(at)):
            raise BadNumber(worth)
        self._now = changed_moment(self._kind, self._now, at, worth, f"set {at} {figures_of(worth)}")

    def _answer_to(self, question):
        self._check_entry(question)
        rows = [grid.row(question) for grid in self._now.plan.questions]
        return self._kind.joined(list(zip(rows, self._now.cell_rows)))

    def _exchange(self, scheme):
        check_scheme(scheme, "scheme")
        plan = self._now.plan
        if scheme.base != plan.model.base:
            raise Unlike("base")
        self._kind.check_model(scheme)
        self._now = exchanged_moment(self._kind, self._now, Plan(scheme, plan.digits, plan.size))

    def _is_like(self, other):
        """Whether another store of the same kind has an equal scheme, length and entries."""
        mine, others = self._now, other._now
        return (self._kind.word == other._kind.word and mine.plan.model == others.plan.model
                and mine.plan.digits == others.plan.digits and mine.column == others.column)

    def _do(self, word, entry, amount):
        """Do a deed of a play."""
        if word == "set":
            self._put(entry, amount)
        else:
            self.add(entry, amount)

    def __len__(self):
        return len(self._now.column)

    def __iter__(self):
        return iter(self._now.column)

    def __getitem__(self, at):
        return self._entry_at(at)

    def __setitem__(self, at, worth):
        self._put(at, worth)

    def __call__(self, question):
        return self._answer_to(question)

    def __eq__(self, other):
        return isinstance(other, Store) and self._is_like(other)

    @property
    def length(self):
        """How many digits tell an entry."""
        return self._now.plan.digits

    @property
    def entries(self):
        """The tuple of all entries."""
        return self._now.column

    @property
    def scheme(self):
        """The scheme by which cells are kept; when it is assigned the entries stay."""
        return self._now.plan.model

    @scheme.setter
    def scheme(self, value):
        self._exchange(value)

    @property
    def log(self):
        """The texts of the deeds that are not taken back."""
        return deeds_to(self._now)

    def cells(self, plane):
        """The tuple of the cells of the plane with this index."""
        rows = self._now.cell_rows
        if not is_between(plane, 0, len(rows) - 1):
            raise NoPlane(plane)
        return rows[plane]

    def add(self, entry, by):
        """Add so much to an entry."""
        present = self._entry_at(entry)
        if not self._kind.is_rise(by):
            raise BadNumber(by)
        self._now = changed_moment(self._kind, self._now, entry, present + by, f"add {entry} {figures_of(by)}")

    def exchange(self, scheme):
        """Keep cells by another scheme; the entries stay."""
        self._exchange(scheme)

    def first_wrong(self, wanted):
        """The least question that is answered otherwise than the wanted table tells, or None."""
        plan = self._now.plan
        check_wanted(plan.model, wanted)
        due = gathered(self._kind, Grid(wanted, plan.digits, plan.size), self._now.column)
        for question in range(plan.size):
            if self._answer_to(question) != due[question]:
                return question
        return None

    def play(self, *deeds):
        """Do deeds that are told by texts, all of them or none."""
        before = self._now
        for at, deed in enumerate(deeds):
            words = _deed_in(deed)
            if words is None:
                self._now = before
                raise BadDeed(at)
            try:
                self._do(*words)
            except SumError as error:
                self._now = before
                raise BadDeed(at) from error

    def undo(self):
        """Take back the last deed."""
        if self._now.ahead is None:
            raise Nothing()
        self._now = self._now.ahead

    def trial(self):
        """A block for `with`, behind which the store is as it was when the block began."""
        return Trial(self)

    def tried(self, work):
        """What the work returns with the store, which is as it was behind it."""
        with self.trial() as held:
            return work(held)

    def twin(self):
        """A store that is equal, has the same deeds to take back, and changes by itself."""
        plan = self._now.plan
        found = self._made(plan.model, plan.digits, plan.size)
        found._now = self._now
        return found


class SumStore(Store):
    """A store whose cells and answers are sums."""

    def __init__(self, scheme, length, size=None):
        self._begin(Sums(), scheme, length, size)

    def _made(self, scheme, length, size):
        return SumStore(scheme, length, size)

    def __len__(self):
        return len(self._now.column)

    def __iter__(self):
        return iter(self._now.column)

    def __getitem__(self, at):
        return self._entry_at(at)

    def __setitem__(self, at, worth):
        self._put(at, worth)

    def __call__(self, question):
        return self._answer_to(question)

    def __eq__(self, other):
        return isinstance(other, SumStore) and self._is_like(other)

    @property
    def length(self):
        return self._now.plan.digits

    @property
    def entries(self):
        return self._now.column

    @property
    def scheme(self):
        return self._now.plan.model

    @scheme.setter
    def scheme(self, value):
        self._exchange(value)

    @property
    def log(self):
        return deeds_to(self._now)

    def cells(self, plane):
        return super().cells(plane)

    def add(self, entry, by):
        super().add(entry, by)

    def exchange(self, scheme):
        super().exchange(scheme)

    def first_wrong(self, wanted):
        return super().first_wrong(wanted)

    def play(self, *deeds):
        super().play(*deeds)

    def undo(self):
        super().undo()

    def trial(self):
        return super().trial()

    def tried(self, work):
        return super().tried(work)

    def twin(self):
        return super().twin()


class GreatestStore(Store):
    """A store whose cells and answers are the greatest of entries, which only rise."""

    def __init__(self, scheme, length, size=None):
        self._begin(Greatest(), scheme, length, size)

    def _made(self, scheme, length, size):
        return GreatestStore(scheme, length, size)

    def __len__(self):
        return len(self._now.column)

    def __iter__(self):
        return iter(self._now.column)

    def __getitem__(self, at):
        return self._entry_at(at)

    def __setitem__(self, at, worth):
        self._put(at, worth)

    def __call__(self, question):
        return self._answer_to(question)

    def __eq__(self, other):
        return isinstance(other, GreatestStore) and self._is_like(other)

    @property
    def length(self):
        return self._now.plan.digits

    @property
    def entries(self):
        return self._now.column

    @property
    def scheme(self):
        return self._now.plan.model

    @scheme.setter
    def scheme(self, value):
        self._exchange(value)

    @property
    def log(self):
        return deeds_to(self._now)

    def cells(self, plane):
        return super().cells(plane)

    def add(self, entry, by):
        super().add(entry, by)

    def exchange(self, scheme):
        super().exchange(scheme)

    def first_wrong(self, wanted):
        return super().first_wrong(wanted)

    def play(self, *deeds):
        super().play(*deeds)

    def undo(self):
        super().undo()

    def trial(self):
        return super().trial()

    def tried(self, work):
        return super().tried(work)

    def twin(self):
        return super().twin()


def filled(store, entries):
    """A new store with a tuple of entries in the place of its own, and still without deeds."""
    store._now = first_moment(store._kind, store._now.plan, entries)
    return store


def _deed_in(text):
    """The word, the entry and the amount of a deed that a text tells; None for any other value."""
    words = text.split(" ") if isinstance(text, str) else []
    if len(words) != 3 or words[0] not in ("set", "add"):
        return None
    entry, amount = number_in(words[1], None), number_in(words[2], None)
    return None if entry is None or amount is None else (words[0], entry, amount)
