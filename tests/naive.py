"""Slow and plain ways to the same answers, and samples, for the tests alone."""

import functools
import itertools
import math
import random
from collections import Counter

BIG = 10 ** 39 + 7  # forty figures

# None of these is a product, a sum, a row, a sum of rows, a part or a place.
STRANGE = [
    None, True, False, "", "a", "1", "(1,)", [], [1], [[1]], [(1,)], -1, -BIG,
    (None,), (True,), (False,), ("1",), ([],), ([1],), (-1,), (1, -1), (1, True), (1, None), (1, "1"),
    ((None,),), ((True,),), ((False,),), (("a",),), ([1],), ([],), ((-1,),), ((1,), None), ((1,), [2]), [((1,),)],
    (((1,),),), ((((1,),),),), (((((((((1,),),),),),),),),),
]


def odd(things):
    """The sum of the things, by counting them all."""
    return tuple(sorted(thing for thing, count in Counter(things).items() if count % 2))


def times(one, other):
    return odd([tuple(e + f for e, f in zip(p, q)) for p in one for q in other])


def letter(n, i, e=1):
    return tuple(e if j == i else 0 for j in range(n))


def sent(n, some, images):
    """Each letter i becomes images[i], one factor at a time, without any short cut."""
    told = []
    for product in some:
        made = ((0,) * n,)
        for e, image in zip(product, images):
            for _ in range(e):
                made = times(made, image)
        told.extend(made)
    return odd(told)


def put(m, some, table):
    return sent(m, some, [odd([letter(m, i) for i in row]) for row in table])


def whole(some):
    """Each letter x becomes x + x x."""
    if not some:
        return ()
    n = len(some[0])
    return sent(n, some, [odd([letter(n, i), letter(n, i, 2)]) for i in range(n)])


def raised(some, k):
    told = []
    for product in some:
        told.extend(p for p in whole((product,)) if sum(p) == sum(product) + k)
    return odd(told)


def products_of(n, d):
    if n == 1:
        return [(d,)]
    return [(e,) + rest for e in range(d + 1) for rest in products_of(n - 1, d - e)]


def any_sum(rng, n, most, degree):
    """A sum of at most so many products, of at most this degree."""
    told = []
    for _ in range(most):
        d = rng.randint(0, degree)
        product = [0] * n
        for _ in range(d):
            product[rng.randrange(n)] += 1
        told.append(tuple(product))
    return tuple(sorted(set(told)))


def any_sum_of_degree(rng, n, most, d):
    told = set()
    for _ in range(most):
        product = [0] * n
        for _ in range(d):
            product[rng.randrange(n)] += 1
        told.add(tuple(product))
    return tuple(sorted(told))


def any_table(rng, n, m, longest):
    return tuple(tuple(sorted(rng.sample(range(m), rng.randint(0, min(longest, m))))) for _ in range(n))


def source(seed):
    return random.Random(seed)


def bounds(n):
    """How many products a sum of n letters has at most, and of which degree at most."""
    return (40, 24) if n <= 3 else (8, 10)


def pairs(things):
    return itertools.product(things, things)


def done(rows, some):
    """Each row by itself, its last part first."""
    told = []
    for row in rows:
        made = some
        for part in reversed(row):
            made = raised(made, part)
        told.extend(made)
    return odd(told)


def pair(a, b):
    told = [(a + b - c, c)[: 2 if c else 1] for c in range(a // 2 + 1) if math.comb(b - c - 1, a - 2 * c) % 2]
    return tuple(sorted(told))


def slow_places(row):
    return [i for i in range(len(row) - 1) if row[i] < 2 * row[i + 1]]


def exchanged(rows, row, place):
    made = [row[:place] + two + row[place + 2:] for two in pair(row[place], row[place + 1])]
    return odd(list(rows) + [row] + made)


def rows_raising(r, most=6):
    """All rows of at most so many parts that raise by r."""
    if r == 0:
        return [()]
    if most == 0:
        return []
    return [(part,) + rest for part in range(1, r + 1) for rest in rows_raising(r - part, most - 1)]


def any_rows(rng, most, raises):
    """A sum of at most so many rows, each of which raises by one of these."""
    return tuple(sorted({rng.choice(rows_raising(rng.choice(raises))) for _ in range(most)}))


def ones(n, m):
    return ((1,) * m + (0,) * (n - m),)


def counts_raise(counts):
    return sum((2 ** i - 1) * number for i, number in enumerate(counts, start=1))


@functools.lru_cache(None)
def counts_raising(r):
    """All counts that raise by r, sorted, by trying all numbers."""
    told = []
    for length in range(5):
        for counts in itertools.product(*[range(r // (2 ** i - 1) + 1) for i in range(1, length + 1)]):
            if counts_raise(counts) == r and (not counts or counts[-1]):
                told.append(counts)
    return tuple(sorted(told))


def any_counts(rng, most, raises):
    """A sum of at most so many counts, each of which raises by one of these."""
    return tuple(sorted({rng.choice(counts_raising(rng.choice(raises))) for _ in range(most)}))


def compositions(e, length):
    if length == 1:
        return [(e,)]
    return [(first,) + rest for first in range(e + 1) for rest in compositions(e - first, length - 1)]


def apart(numbers):
    """Whether no two of them have a binary 1 at the same place."""
    return all(one & other == 0 for one, other in itertools.combinations(numbers, 2))


@functools.lru_cache(None)
def partings(e):
    return [parts for parts in compositions(e, 5) if apart(parts)]


def counts_done(counts, some):
    """By parting each exponent in all ways, all counts at once."""
    wanted = {numbers + (0,) * (4 - len(numbers)) for numbers in counts}
    told = []
    for product in some:
        here = {((), (0, 0, 0, 0)): 1}
        for e in product:
            there = Counter()
            for (made, totals), ways in here.items():
                for parts in partings(e):
                    totals_now = tuple(t + part for t, part in zip(totals, parts[1:]))
                    if any(all(t <= w for t, w in zip(totals_now, want)) for want in wanted):
                        there[made + (sum(part << i for i, part in enumerate(parts)),), totals_now] += ways
            here = there
        for (made, totals), ways in here.items():
            if totals in wanted and ways % 2:
                told.append(made)
    return odd(told)


def counts_by_letters(counts, some):
    """Each letter x becomes x + xx t + xxxx u + .., multiplied out; the new letters tell the counts."""
    told = []
    for product in some:
        n = len(product)
        images = []
        for i in range(n):
            images.append(odd([letter(n, i, 2 ** j) + letter(5, j) for j in range(5)]))
        for made in sent(n + 5, (product + (0,) * 5,), images + [((0,) * (n + 5),)] * 5):
            if tuple(made[n + 1:]) in {numbers + (0,) * (4 - len(numbers)) for numbers in counts}:
                told.append(made[:n])
    return odd(told)


def lines(number):
    """All x(i, 0), .., x(i, 4) whose sum, each times 2 to its place, is the number."""
    return [x for x in itertools.product(*[range((number >> j) + 1) for j in range(5)])
            if sum(v << j for j, v in enumerate(x)) == number]


def tables(r, s):
    """All tables of which counts are made, and the counts."""
    r, s = (numbers + (0,) * (4 - len(numbers)) for numbers in (r, s))
    told = []
    for body in itertools.product(*[lines(number) for number in r]):
        top = tuple(s[j] - sum(line[j + 1] for line in body) for j in range(4))
        if min(top) >= 0:
            table = [(0,) + top] + list(body)
            slopes = [[table[i][t - i] for i in range(5) if 0 <= t - i <= 4] for t in range(1, 9)]
            if all(apart(slope) for slope in slopes):
                made = [sum(slope) for slope in slopes]
                while made and made[-1] == 0:
                    made.pop()
                told.append(tuple(made))
    return told


def counts_times(one, other):
    return odd([made for r in one for s in other for made in tables(r, s)])


def settle(rows):
    """By exchanges of a row of the greatest moment, its last place first."""
    while True:
        can = [row for row in rows if slow_places(row)]
        if not can:
            return tuple(rows)
        row = max(can, key=lambda row: sum(i * part for i, part in enumerate(row, start=1)))
        rows = exchanged(rows, row, slow_places(row)[-1])


def behind(one, other):
    return odd([first + second for first in one for second in other])


@functools.lru_cache(None)
def part_turned(k):
    if k == 0:
        return ((),)
    return settle(odd([(i,) + rest for i in range(1, k + 1) for rest in part_turned(k - i)]))


def turned(rows):
    told = []
    for row in rows:
        made = ((),)
        for part in row:
            made = settle(behind(part_turned(part), made))
        told.extend(made)
    return odd(told)


def counts_of(rows):
    told = []
    for row in rows:
        made = ((),)
        for part in reversed(row):
            made = counts_times(((part,),), made)
        told.extend(made)
    return odd(told)


def lowered(row, k):
    """By trying all numbers for all letters."""
    told = []
    for product in row:
        for less in itertools.product(*[range(e // 2 + 1) for e in product]):
            if sum(less) == k and all(math.comb(e - j, j) % 2 for e, j in zip(product, less)):
                told.append(tuple(e - j for e, j in zip(product, less)))
    return odd(told)


def lowered_by_meeting(row, k):
    """All products that, raised by k, meet the row oddly."""
    if not row:
        return ()
    n = len(row[0])
    told = []
    for d in {sum(product) for product in row}:
        for product in products_of(n, d - k) if d >= k else []:
            if len(set(raised((product,), k)) & set(row)) % 2:
                told.append(product)
    return odd(told)


@functools.lru_cache(None)
def all_raised(n, d):
    """Of all products of all lesser degrees what they make when raised to the degree d."""
    return tuple(raised((p,), k) for k in range(1, d + 1) for p in products_of(n, d - k))


def led(sums):
    """Sums added to one another until each leads with a last product of its own."""
    told = {}
    for some in sums:
        left = set(some)
        while left and max(left) in told:
            left ^= told[max(left)]
        if left:
            told[max(left)] = left
    return told


def is_made_of(sums, some):
    leads = led(sums)
    return len(led(list(leads.values()) + [some])) == len(leads)


def standing(n, d):
    """Each product is asked by itself: is it made of raised ones and of those ahead of it?"""
    told = []
    products = products_of(n, d)
    for place, product in enumerate(products):
        ahead = [(other,) for other in products[:place]]
        if not is_made_of(list(all_raised(n, d)) + ahead, (product,)):
            told.append(product)
    return told


def all_sums(things):
    for chosen in itertools.product((False, True), repeat=len(things)):
        yield tuple(thing for thing, taken in zip(things, chosen) if taken)


def is_even(n, d, row):
    return all(len(set(row) & set(some)) % 2 == 0 for some in all_raised(n, d))


def greatest_degree(n):
    """The greatest degree of which sums of n letters are judged."""
    top = 24 if n <= 3 else 10
    return max(d for d in range(top + 1) if math.comb(d + n - 1, n - 1) <= 200)
