"""Two neighbours in a row that do not fall fast are exchanged for rows that do the same."""

from raisedsums.errors import NoExchange, NoRow
from raisedsums.parity import flip, is_whole
from raisedsums.raising import odd_ways

MOST_PART = 40


def falls_slowly(a, b):
    return a < 2 * b


def rows_for_two(a, b):
    told = []
    for c in range(a // 2 + 1):
        if odd_ways(b - c - 1, a - 2 * c):
            told.append((a + b - c, c) if c > 0 else (a + b,))
    return sorted(told)


def is_part(thing):
    return is_whole(thing) and 1 <= thing <= MOST_PART


def pair(a, b):
    if not is_part(a) or not is_part(b) or not falls_slowly(a, b):
        raise NoExchange("two parts from 1 to forty are exchanged, the first below twice the second")
    return tuple(rows_for_two(a, b))


def rows_for_row(row, place):
    ahead = row[:place]
    rest = row[place + 2:]
    return [ahead + two + rest for two in rows_for_two(row[place], row[place + 1])]


def stands_in(kept, row):
    # The kinds are asked first: True equals 1, and a list can't be looked up.
    return isinstance(row, tuple) and all([is_whole(part) for part in row]) and row in kept


def is_place(row, place):
    if not is_whole(place) or not 0 <= place < len(row) - 1:
        return False
    return falls_slowly(row[place], row[place + 1])


def exchange_in(kept, row, place):
    if not stands_in(kept, row):
        raise NoRow(0)
    if not is_place(row, place):
        raise NoExchange("no two neighbours to exchange stand at this place")
    flip(kept, row)
    for made in rows_for_row(row, place):
        flip(kept, made)


def rows_kept(rows):
    kept = {}
    for row in rows:
        kept[row] = True
    return kept


def exchanged(rows, row, place):
    kept = rows_kept(rows)
    exchange_in(kept, row, place)
    return tuple(sorted(kept))
