"""Exchanges done until nothing is left to exchange."""

from raisedsums.errors import NoPart
from raisedsums.exchanges import exchange_in, is_place, rows_for_row, rows_kept
from raisedsums.parity import flip, is_whole
from raisedsums.rows import MOST_RAISED


def places(row):
    return [place for place in range(len(row) - 1) if is_place(row, place)]


def is_steep(row):
    return len(places(row)) == 0


def moment(row):
    return sum([number * part for number, part in enumerate(row, start=1)])


def flip_level(levels, row):
    flip(levels.setdefault(moment(row), {}), row)


def way(rows):
    # From the greatest moment down: what comes of a row lies below it, so
    # what is gone through never comes again.
    levels = {}
    for row in rows:
        flip_level(levels, row)
    steps = []
    while levels:
        level = levels.pop(max(levels))
        for row in sorted(level):
            slow = places(row)
            if slow:
                steps.append((row, slow[0]))
                for made in rows_for_row(row, slow[0]):
                    flip_level(levels, made)
    return steps


def walked(rows, steps):
    kept = rows_kept(rows)
    for row, place in steps:
        exchange_in(kept, row, place)
    return tuple(sorted(kept))


def settled(rows):
    return walked(rows, way(rows))


def steep_from(r, most):
    # The steep rows that raise by r and whose first part is at most so great, sorted.
    if r == 0:
        return [()]
    told = []
    for first in range(1, min(r, most) + 1):
        told.extend([(first,) + rest for rest in steep_from(r - first, first // 2)])
    return told


def steep_rows(r):
    if not is_whole(r) or not 0 <= r <= MOST_RAISED:
        raise NoPart("steep rows are told of whole numbers from 0 to sixteen")
    return steep_from(r, r)
