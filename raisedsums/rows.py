"""Rows of parts, done one behind the other, and sums of rows."""

from raisedsums.errors import NoRow, TooMany
from raisedsums.parity import flip, is_rising, is_whole, odd_ones
from raisedsums.raising import raised
from raisedsums.sums import added

MOST_PARTS = 6
MOST_RAISED = 16
MOST_ROWS_HELD = 6
MOST_RAISED_HELD = 8


def fits(row):
    return len(row) <= MOST_PARTS and sum(row) <= MOST_RAISED


def is_row(thing):
    if not isinstance(thing, tuple):
        return False
    return all([is_whole(part) and part >= 1 for part in thing]) and fits(thing)


def are_rows(thing):
    if not isinstance(thing, tuple):
        return False
    return all([is_row(row) for row in thing]) and is_rising(thing)


def can_be_held(rows):
    return len(rows) <= MOST_ROWS_HELD and all([sum(row) <= MOST_RAISED_HELD for row in rows])


def rows_of(things):
    # All are asked ahead of adding: True equals 1 and would be taken for it there.
    for at, thing in enumerate(things):
        if not is_row(thing):
            raise NoRow(at)
    return odd_ones(things)


def rows_added(one, other):
    return odd_ones(one + other)


def done(rows, some):
    # Rows with the same last part share what it makes, which is the dear step.
    told = some if () in rows else ()
    for last in sorted(set([row[-1] for row in rows if row])):
        made = raised(some, last)
        if made:
            ahead = [row[:-1] for row in rows if row and row[-1] == last]
            told = added(told, done(ahead, made))
    return told


def behind(one, other):
    kept = {}
    for first in one:
        for second in other:
            row = first + second
            if not fits(row):
                raise TooMany("a row has at most six parts and raises by at most sixteen")
            flip(kept, row)
    return tuple(sorted(kept))
