"""Rows of products: how they meet sums, and what they become when lowered."""

from raisedsums.errors import NoPart
from raisedsums.parity import flip, is_whole
from raisedsums.raising import odd_ways


def meets_oddly(row, some):
    return len(set(row) & set(some)) % 2 == 1


def letter_lowered(partly, e, rest):
    # The letters behind this one can be less by rest together, no more.
    told = []
    for made, left in partly:
        for j in range(max(0, left - rest), min(e // 2, left) + 1):
            if odd_ways(e - j, j):
                told.append((made + (e - j,), left - j))
    return told


def product_lowered(product, k):
    partly = [((), k)]
    rest = sum([e // 2 for e in product])
    for e in product:
        rest -= e // 2
        partly = letter_lowered(partly, e, rest)
    return [made for made, left in partly]


def lowered(row, k):
    if not is_whole(k) or k < 0:
        raise NoPart("a row is lowered by a whole number from 0 on")
    kept = {}
    for product in row:
        for made in product_lowered(product, k):
            flip(kept, made)
    return tuple(sorted(kept))
