"""Moments of stores: what a store is between two deeds, and blocks behind which a store is as it was."""

from sumdigits.errors import TooMany
from sumdigits.kinds import gathered


class Moment:
    """What a store keeps at one time: its plan, the column of its entries, and the cells of each plane.

    text tells the last deed, and ahead is the moment that it changed, None without a deed; many tells how many deeds
    there are. Moments never change, so stores and their twins share them.
    """

    def __init__(self, plan, column, cell_rows, text, ahead):
        self.plan = plan
        self.column = column
        self.cell_rows = cell_rows
        self.text = text
        self.ahead = ahead
        self.many = 0 if ahead is None else ahead.many + 1


def deeds_to(moment):
    """The tuple of the texts of all deeds that led to a moment."""
    texts = []
    while moment.ahead is not None:
        texts.append(moment.text)
        moment = moment.ahead
    return tuple(texts[::-1])


def first_moment(kind, plan, column):
    """A moment without deeds."""
    return Moment(plan, column, _all_cells(kind, plan, column), "", None)


def check_room(moment):
    """Refuse one deed more than a store keeps."""
    if moment.many == 500:
        raise TooMany("deeds", 500)


def changed_moment(kind, moment, at, amount, text):
    """The moment behind a deed that gives the entry of this number another amount."""
    check_room(moment)
    old = moment.column[at]
    column = moment.column[:at] + (amount,) + moment.column[at + 1:]
    cell_rows = tuple([kind.changed(cells, grid.row(at), old, amount)
                       for cells, grid in zip(moment.cell_rows, moment.plan.changes)])
    return Moment(moment.plan, column, cell_rows, text, moment)


def exchanged_moment(kind, moment, plan):
    """The moment behind a deed that gives the store another scheme."""
    check_room(moment)
    return Moment(plan, moment.column, _all_cells(kind, plan, moment.column), "exchange", moment)


def _all_cells(kind, plan, column):
    return tuple([gathered(kind, grid, column) for grid in plan.changes])


class Trial:
    """A block of `with`: behind it the store is as it was when the block began."""

    def __init__(self, store):
        self.store = store
        self.moment = store._now

    def __enter__(self):
        self.moment = self.store._now
        return self.store

    def __exit__(self, kind, value, trace):
        store = self.store
        store._now = self.moment
