"""Sums halved and doubled: odd exponents less 1 and halved, and back."""


def all_odd(product):
    return all([e % 2 == 1 for e in product])


# Both keep the order of the products that stay, and none becomes the same as another one.
def halved(some):
    return tuple([tuple([e // 2 for e in product]) for product in some if all_odd(product)])


def doubled(some):
    return tuple([tuple([2 * e + 1 for e in product]) for product in some])
