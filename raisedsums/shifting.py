"""A part shifted from one factor to the other."""

from raisedsums.errors import NoPart
from raisedsums.parity import is_whole
from raisedsums.rows import done
from raisedsums.sums import multiplied
from raisedsums.turning import parts_turned

MOST_SHIFTED = 8


def shifted(k, f, g):
    if not is_whole(k) or not 0 <= k <= MOST_SHIFTED:
        raise NoPart("a part from 0 to eight is shifted")
    parts = parts_turned(k)
    return [(i, multiplied(done(parts[k - i], f), g)) for i in range(k + 1)]
