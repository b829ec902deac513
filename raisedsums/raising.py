"""Raising: each letter becomes itself and its square; part k leads k degrees up."""

from raisedsums.errors import NoPart
from raisedsums.parity import flip, is_whole


def odd_ways(e, k):
    return e & k == k


def shares(e, least, most):
    # All j from least to most with odd ways to choose j of e, rising:
    # they are the numbers whose binary ones are among those of e.
    told = []
    j = 0
    while j <= most:
        if j >= least:
            told.append(j)
        if j == e:
            break
        j = (j - e) & e
    return told


def letter_raised(partly, e, rest):
    # What is left is bounded by what the letters behind this one can take.
    told = []
    for made, left in partly:
        for j in shares(e, left - rest, left):
            told.append((made + (e + j,), left - j))
    return told


def product_raised(product, k):
    partly = [((), k)]
    rest = sum(product)
    for e in product:
        rest -= e
        partly = letter_raised(partly, e, rest)
    return [made for made, left in partly]


def product_raised_whole(product):
    told = [()]
    for e in product:
        longer = []
        for made in told:
            longer.extend([made + (e + j,) for j in shares(e, 0, e)])
        told = longer
    return told


def raised(some, k):
    if not is_whole(k) or k < 0:
        raise NoPart("a part is a whole number from 0 on")
    kept = {}
    for product in some:
        if k <= sum(product):
            for made in product_raised(product, k):
                flip(kept, made)
    return tuple(sorted(kept))


def raised_whole(some):
    kept = {}
    for product in some:
        for made in product_raised_whole(product):
            flip(kept, made)
    return tuple(sorted(kept))
