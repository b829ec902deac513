"""Counts: how much of the exponents goes to squares, to fourth powers, and so on."""

from raisedsums.parity import flip, is_rising, is_whole
from raisedsums.raising import shares
from raisedsums.rows import MOST_RAISED

MOST_NUMBERS = 4


def raises_by(numbers):
    told = 0
    weight = 1
    for number in numbers:
        told += weight * number
        weight = 2 * weight + 1
    return told


def without_noughts(numbers):
    told = list(numbers)
    while told and told[-1] == 0:
        told.pop()
    return tuple(told)


def is_counts(thing):
    if not isinstance(thing, tuple) or len(thing) > MOST_NUMBERS:
        return False
    if not all([is_whole(number) and number >= 0 for number in thing]):
        return False
    return without_noughts(thing) == thing and raises_by(thing) <= MOST_RAISED


def are_counts(thing):
    if not isinstance(thing, tuple):
        return False
    return all([is_counts(numbers) for numbers in thing]) and is_rising(thing)


def partings(e, left, rest):
    # All tuples (made, what is left of the counts); the letters behind
    # this one can take no more than rest of what is left.
    told = [(e, e, ())]
    weight = 1
    for number in left:
        longer = []
        for free, made, lefts in told:
            for part in shares(free, number - rest, number):
                longer.append((free - part, made + weight * part, lefts + (number - part,)))
        told = longer
        weight = 2 * weight + 1
    return [(made, lefts) for free, made, lefts in told if sum(lefts) <= rest]


def letter_parted(partly, e, rest):
    # What comes twice, with as much left, comes to nothing in the end.
    kept = {}
    for made, left in partly:
        for exponent, lefts in partings(e, left, rest):
            flip(kept, (made + (exponent,), lefts))
    return list(kept)


def counts_done_on_product(numbers, product):
    rest = sum(product)
    partly = [((), numbers)]
    for e in product:
        rest -= e
        partly = letter_parted(partly, e, rest)
    return [made for made, left in partly]


def counts_done(counts, some):
    kept = {}
    for numbers in counts:
        for product in some:
            for made in counts_done_on_product(numbers, product):
                flip(kept, made)
    return tuple(sorted(kept))


def need(counts):
    return min([sum(numbers) for numbers in counts], default=None)
