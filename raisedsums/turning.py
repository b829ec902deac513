"""Turning: what is done one behind the other is done the other way round."""

from raisedsums.errors import NoPart
from raisedsums.kinds import counts_of, rows_by
from raisedsums.parity import is_whole
from raisedsums.rows import MOST_RAISED, behind, rows_added
from raisedsums.settling import settled


def parts_turned(most):
    # What each part from 0 to most is turned to, each found once of the lesser ones.
    told = [((),)]
    for k in range(1, most + 1):
        rows = []
        for i in range(1, k + 1):
            rows.extend([(i,) + rest for rest in told[k - i]])
        told.append(settled(tuple(rows)))
    return told


def part_turned(k):
    if not is_whole(k) or not 0 <= k <= MOST_RAISED:
        raise NoPart("a part from 0 to sixteen is turned")
    return parts_turned(k)[k]


def row_turned(row, parts):
    made = ((),)
    for part in reversed(row):
        made = settled(behind(made, parts[part]))
    return made


def turned(rows):
    parts = parts_turned(max([sum(row) for row in rows], default=0))
    told = ()
    for row in rows:
        told = rows_added(told, row_turned(row, parts))
    return told


def counts_turned(counts):
    return counts_of(turned(rows_by(counts)))
