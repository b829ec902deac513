"""Two sums of rows held against one another: they do the same, or a product of letters tells them apart."""

from raisedsums.errors import TooMany
from raisedsums.rows import can_be_held, done, rows_added
from raisedsums.settling import settled

LETTERS = 8


def ones(m):
    return ((1,) * m + (0,) * (LETTERS - m),)


def left_of_both(one, other):
    # Exchanges go row by row, so both settled and added are both added and settled.
    if not can_be_held(one) or not can_be_held(other):
        raise TooMany("sums of at most six rows that raise by at most eight are held against one another")
    return settled(rows_added(one, other))


def least(one, other):
    left = left_of_both(one, other)
    if not left:
        return None
    m = 0
    while not done(left, ones(m)):
        m += 1
    return m


def held(one, other):
    m = least(one, other)
    if m is None:
        return ("same", one, other)
    return ("apart", one, other, m)
