"""From sums of rows to sums of counts that do the same, and back."""

from raisedsums.counting import MOST_NUMBERS
from raisedsums.parity import flip
from raisedsums.tables import times


def counts_of_row(row):
    made = ((),)
    for part in row:
        made = times(made, ((part,),))
    return made


def counts_of(rows):
    kept = {}
    for row in rows:
        for numbers in counts_of_row(row):
            flip(kept, numbers)
    return tuple(sorted(kept))


def from_behind(numbers):
    return tuple(reversed(numbers + (0,) * (MOST_NUMBERS - len(numbers))))


def row_led_by(numbers):
    # The steep row each part of which is by the number at its place more than twice the next one.
    row = ()
    part = 0
    for number in reversed(numbers):
        part = number + 2 * part
        row = (part,) + row
    return row


def rows_by(counts):
    # Of the counts of a steep row those that it is led by come last, compared
    # from behind: taken away from the last one on, all counts are gone in the end.
    left = {}
    for numbers in counts:
        left[numbers] = True
    told = []
    while left:
        row = row_led_by(max(left, key=from_behind))
        told.append(row)
        for numbers in counts_of_row(row):
            flip(left, numbers)
    return tuple(sorted(told))
