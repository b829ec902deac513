"""Products of letters, told by their exponents, and sums of them."""

from raisedsums.errors import NoProduct
from raisedsums.parity import flip, is_rising, is_whole, odd_ones


def is_product(n, thing):
    if not isinstance(thing, tuple) or len(thing) != n:
        return False
    return all([is_whole(e) and e >= 0 for e in thing])


def is_sum(n, thing):
    if not isinstance(thing, tuple):
        return False
    return all([is_product(n, product) for product in thing]) and is_rising(thing)


def sum_of(n, things):
    # All are asked ahead of adding: True equals 1 and would be taken for it there.
    for at, thing in enumerate(things):
        if not is_product(n, thing):
            raise NoProduct(at)
    return odd_ones(things)


def added(one, other):
    return odd_ones(one + other)


def multiplied(one, other):
    kept = {}
    for product in one:
        for factor in other:
            flip(kept, tuple([e + f for e, f in zip(product, factor)]))
    return tuple(sorted(kept))


def degrees(some):
    return sorted(set([sum(product) for product in some]))


def of_degree(some, d):
    return tuple([product for product in some if sum(product) == d])
