"""What sums of all kinds share: whole numbers, sorted tuples, and that twice the same is nothing."""


def is_whole(thing):
    return isinstance(thing, int) and not isinstance(thing, bool)


def is_rising(things):
    return all([one < other for one, other in zip(things, things[1:])])


def flip(kept, thing):
    # A dict of True stands for the things met an odd number of times so far.
    if thing in kept:
        kept.pop(thing)
    else:
        kept[thing] = True


def odd_ones(things):
    kept = {}
    for thing in things:
        flip(kept, thing)
    return tuple(sorted(kept))
