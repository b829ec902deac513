"""Products of letters, told by their exponents, and sums of them."""

from raisedsums.errors import NoProduct
from raisedsums.parity import flip, is_rising, is_whole, odd_ones

MOST_LETTERS = 10
FEW_LETTERS = 3
MOST_JUDGED = 200


def is_number_of_letters(thing):
    return is_whole(thing) and 1 <= thing <= MOST_LETTERS


def is_product(n, thing):
    if not isinstance(thing, tuple) or len(thing) != n:
        return False
    return all([is_whole(e) and e >= 0 for e in thing])


def is_sum(n, thing):
    if not isinstance(thing, tuple):
        return False
    return all([is_product(n, product) for product in thing]) and is_rising(thing)


def sum_of(n, things):
    # All are asked ahead of adding: True equals 1 and would be taken for it there.
    for at, thing in enumerate(things):
        if not is_product(n, thing):
            raise NoProduct(at)
    return odd_ones(things)


def added(one, other):
    return odd_ones(one + other)


def multiplied(one, other):
    kept = {}
    for product in one:
        for factor in other:
            flip(kept, tuple([e + f for e, f in zip(product, factor)]))
    return tuple(sorted(kept))


def degrees(some):
    return sorted(set([sum(product) for product in some]))


def of_degree(some, d):
    return tuple([product for product in some if sum(product) == d])


def most_products(n):
    return 40 if n <= FEW_LETTERS else 8


def most_degree(n):
    return 24 if n <= FEW_LETTERS else 10


def can_be_handed_in(n, some):
    return len(some) <= most_products(n) and all([sum(product) <= most_degree(n) for product in some])


def number_of_products(n, d):
    # The ways to choose n - 1 of d + n - 1 things, one factor at a time: each step comes out even.
    told = 1
    for i in range(1, n):
        told = told * (d + i) // i
    return told


def products_of_degree(n, d):
    if n == 1:
        return [(d,)]
    told = []
    for e in range(d + 1):
        told.extend([(e,) + rest for rest in products_of_degree(n - 1, d - e)])
    return told


def can_be_judged(n, d):
    return d <= most_degree(n) and number_of_products(n, d) <= MOST_JUDGED
