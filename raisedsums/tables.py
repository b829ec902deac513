"""Counts multiplied by tables."""

from raisedsums.counting import raises_by, without_noughts
from raisedsums.errors import TooMany
from raisedsums.parity import flip
from raisedsums.rows import MOST_RAISED


def changed(numbers, place, by):
    return numbers[:place] + (numbers[place] + by,) + numbers[place + 1:]


def place_filled(partly, i, j):
    # Numbers of one slope have no binary 1 in common, so their sum tells where their ones stand.
    slope = i + j - 1
    told = []
    for slopes, columns, left in partly:
        for x in range(min(columns[j - 1], left >> j) + 1):
            if slopes[slope] & x == 0:
                told.append((changed(slopes, slope, x), changed(columns, j - 1, -x), left - (x << j)))
    return told


def line_filled(partly, i, number, width):
    # What the places from 1 on leave of the line's number goes to its place 0.
    filled = [(slopes, columns, number) for slopes, columns in partly]
    for j in range(1, width + 1):
        filled = place_filled(filled, i, j)
    told = []
    for slopes, columns, left in filled:
        if slopes[i - 1] & left == 0:
            told.append((changed(slopes, i - 1, left), columns))
    return told


def top_filled(partly):
    # What the lines leave of the columns goes to line 0.
    told = []
    for slopes, columns in partly:
        top = columns + (0,) * (len(slopes) - len(columns))
        if all([slope & x == 0 for slope, x in zip(slopes, top)]):
            told.append(tuple([slope + x for slope, x in zip(slopes, top)]))
    return told


def made_by_tables(r, s):
    partly = [((0,) * (len(r) + len(s)), s)]
    for i, number in enumerate(r, start=1):
        partly = line_filled(partly, i, number, len(s))
    return [without_noughts(numbers) for numbers in top_filled(partly)]


def times(one, other):
    kept = {}
    for r in one:
        for s in other:
            if raises_by(r) + raises_by(s) > MOST_RAISED:
                raise TooMany("counts are multiplied where they raise by at most sixteen together")
            for made in made_by_tables(r, s):
                flip(kept, made)
    return tuple(sorted(kept))
