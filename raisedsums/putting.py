"""Letters put in: each letter of a sum becomes a sum of letters."""

from raisedsums.parity import flip
from raisedsums.sums import multiplied


def letter_times(m, letter, e):
    return tuple([e if place == letter else 0 for place in range(m)])


def letters_times(m, letters, e):
    # Twice the same is nothing, so a sum's square is the sum of the squares:
    # one factor for each binary 1 of e is enough.
    made = ((0,) * m,)
    bit = 1
    while bit <= e:
        if e & bit:
            factor = sorted([letter_times(m, letter, bit) for letter in letters])
            made = multiplied(made, tuple(factor))
        bit = bit * 2
    return made


def product_put_in(m, product, table):
    made = ((0,) * m,)
    for e, letters in zip(product, table):
        made = multiplied(made, letters_times(m, letters, e))
    return made


def put_in(m, some, table):
    kept = {}
    for product in some:
        for made in product_put_in(m, product, table):
            flip(kept, made)
    return tuple(sorted(kept))
