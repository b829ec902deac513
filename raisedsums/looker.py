"""A looker at papers, who knows what raising makes, rows and products alone: not how a paper was found."""

from raisedsums.errors import NoPaper
from raisedsums.parity import is_whole, odd_ones
from raisedsums.raising import raised
from raisedsums.rows import are_rows, can_be_held, done
from raisedsums.sums import can_be_judged, degrees, is_number_of_letters, is_sum, products_of_degree

SIZES = {"same": 3, "apart": 4, "raised": 4, "not": 4}
LETTERS = 8
MOST_PAIRS = 200


def ask(number, holds):
    if not holds:
        raise NoPaper(number)


def is_paper(thing):
    if not isinstance(thing, tuple) or len(thing) == 0 or not isinstance(thing[0], str):
        return False
    return SIZES.get(thing[0]) == len(thing)


def are_few_rows(thing):
    return are_rows(thing) and can_be_held(thing)


def make_the_same(one, other, m):
    some = ((1,) * m + (0,) * (LETTERS - m),)
    return done(one, some) == done(other, some)


def look_at_rows(paper):
    ask(2, are_few_rows(paper[1]))
    ask(3, are_few_rows(paper[2]))
    if paper[0] == "same":
        ask(4, make_the_same(paper[1], paper[2], LETTERS))
    else:
        ask(4, is_whole(paper[3]) and 0 <= paper[3] <= LETTERS)
        ask(5, not make_the_same(paper[1], paper[2], paper[3]))


def is_of_degree(some, d):
    return all([sum(product) == d for product in some])


def is_small_sum(n, thing):
    if not is_sum(n, thing):
        return False
    told = degrees(thing)
    return told == [] or (len(told) == 1 and can_be_judged(n, told[0]))


def is_pair(n, thing, d):
    if not isinstance(thing, tuple) or len(thing) != 2 or not is_whole(thing[0]) or thing[0] < 1:
        return False
    return is_sum(n, thing[1]) and is_of_degree(thing[1], d - thing[0])


def are_pairs(n, thing, some):
    if not isinstance(thing, tuple) or len(thing) > MOST_PAIRS:
        return False
    if some == ():
        return thing == ()
    d = sum(some[0])
    return all([is_pair(n, two, d) for two in thing])


def all_raised(pairs):
    told = []
    for k, some in pairs:
        told.extend(raised(some, k))
    return odd_ones(told)


def is_such_row(n, thing, some):
    if not is_sum(n, thing) or thing == () or some == ():
        return False
    return is_of_degree(thing, sum(some[0]))


def meets_evenly(row, some):
    return len(set(row) & set(some)) % 2 == 0


def all_meet_evenly(n, row, d):
    for less in range(d):
        for product in products_of_degree(n, less):
            if not meets_evenly(row, raised((product,), d - less)):
                return False
    return True


def look_at_sum(paper):
    n = paper[1]
    some = paper[2]
    ask(2, is_number_of_letters(n))
    ask(3, is_small_sum(n, some))
    if paper[0] == "raised":
        ask(4, are_pairs(n, paper[3], some))
        ask(5, all_raised(paper[3]) == some)
    else:
        ask(4, is_such_row(n, paper[3], some))
        ask(5, all_meet_evenly(n, paper[3], sum(some[0])))
        ask(6, not meets_evenly(paper[3], some))


def look(thing):
    ask(1, is_paper(thing))
    if thing[0] in ("same", "apart"):
        look_at_rows(thing)
    else:
        look_at_sum(thing)
