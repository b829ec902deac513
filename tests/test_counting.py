import unittest

import naive
from naive import BIG
from raisedsums.counting import are_counts, counts_done, need
from raisedsums.raising import raised
from raisedsums.sums import is_sum

COUNTS = [(), (1,), (16,), (0, 1), (1, 5), (0, 5), (0, 0, 2), (2, 0, 2), (0, 0, 0, 1), (1, 0, 0, 1), (0, 3, 1), (3, 2, 1)]
NO_COUNTS = [
    (0,), (1, 0), (0, 0), (0, 0, 0, 0), (1, 0, 0), (1, 1, 1, 0), (5, 0, 0, 0), (0, 0, 0, 0, 1), (1, 0, 0, 0, 1),
    (0, 0, 0, 0, 0), (1, 0, 0, 0, 0), (-1,), (-1, 1), (1, -1), (3, -1, 1), (-3, 1), (17,), (2, 5), (0, 6), (3, 0, 2),
    (0, 1, 2), (2, 0, 0, 1), (0, 0, 0, 2), (0, 0, 3), (BIG,), (0, BIG), (-BIG, 1), (True,), (False, 1), (1, True),
    (0, True), (None,), ("1",), (1, "1"), ([],), ([1],), ((1,),), (1, (1,)), [], [1], [0, 1], None, True, False, 0, 1,
    -1, 16, BIG, "", "1", "(1,)", "-", [[1]],
]


class AreCounts(unittest.TestCase):
    def yes(self, thing):
        self.assertIs(are_counts(thing), True, thing)

    def no(self, thing):
        self.assertIs(are_counts(thing), False, thing)

    def test_one_by_one(self):
        self.yes(())
        for counts in COUNTS:
            self.yes((counts,))
        for thing in NO_COUNTS:
            self.no((thing,))
            self.no(((), thing))
            self.no((thing, (16,)))

    def test_all_that_raise_by_so_much(self):
        for r in range(17):
            self.yes(naive.counts_raising(r))
        for r in (17, 18, 20, 31):
            for counts in naive.counts_raising(r):
                self.no((counts,))

    def test_sorted_none_twice_however_many(self):
        every = tuple(sorted(c for r in range(17) for c in naive.counts_raising(r)))
        self.assertGreater(len(every), 12)
        self.yes(every)
        self.yes(every[:12])
        self.yes(every[:13])
        for place in range(len(every) - 1):
            other = list(every)
            other[place], other[place + 1] = other[place + 1], other[place]
            self.no(tuple(other))
            self.no(every[:place + 1] + every[place:])
        self.no(((), ()))
        self.no(((1,), ()))
        self.no(((2,), (1, 1)))
        self.yes(((1, 1), (2,)))

    def test_any_thing(self):
        for thing in naive.STRANGE + NO_COUNTS:
            if thing != ((1,),):
                self.no(thing)
        for thing in ([()], [(1,)], [[1]], ([1],), ((1,), [2]), (((1,),),), ("", "a"), (1,), (1, 2), "()", ((1,), None)):
            self.no(thing)
        self.no((((((((((),),),),),),),),))
        self.no(tuple([(1,)] * 400))
        self.no(tuple([()] * 800))


class CountsDone(unittest.TestCase):
    def as_parted(self, counts, some):
        told = counts_done(counts, some)
        self.assertEqual(told, naive.counts_done(counts, some), (counts, some))
        if some:
            self.assertIs(is_sum(len(some[0]), told), True)
        return told

    def test_ordinary(self):
        self.assertEqual(counts_done(((1,),), ((1, 1),)), ((1, 2), (2, 1)))
        self.assertEqual(counts_done(((0, 1),), ((1, 1),)), ((1, 4), (4, 1)))
        self.assertEqual(counts_done(((1, 1),), ((1, 1),)), ((2, 4), (4, 2)))
        self.assertEqual(counts_done(((1,),), ((2,),)), ())
        self.assertEqual(counts_done(((2,),), ((2,),)), ((4,),))
        self.assertEqual(counts_done(((1,),), ((3,),)), ((4,),))
        self.assertEqual(counts_done(((2,),), ((3,),)), ((5,),))
        self.assertEqual(counts_done(((1, 2),), ((3,),)), ((10,),))
        self.assertEqual(counts_done(((2, 1),), ((3,),)), ((8,),))
        self.assertEqual(counts_done(((0, 0, 1),), ((1,),)), ((8,),))
        self.assertEqual(counts_done(((0, 0, 0, 1),), ((1,),)), ((16,),))
        self.assertEqual(counts_done(((1, 0, 0, 1),), ((3,),)), ())
        self.assertEqual(counts_done(((1, 0, 0, 1),), ((1, 1),)), ((2, 16), (16, 2)))

    def test_without_numbers(self):
        rng = naive.source(70)
        for n in range(1, 11):
            some = naive.any_sum(rng, n, 8, 10)
            self.assertEqual(counts_done(((),), some), some)
            self.assertEqual(counts_done((), some), ())
        for counts in ((), ((),), ((1,),), naive.counts_raising(16)):
            self.assertEqual(counts_done(counts, ()), ())

    def test_twice_is_nothing(self):
        # Both products come to the same, and so do both counts.
        self.assertEqual(counts_done(((1,),), ((1, 2), (2, 1))), ())
        self.assertEqual(counts_done(((0, 1), (3,)), ((3,),)), ())
        self.assertEqual(counts_done(((0, 1),), ((3,),)), ((6,),))
        self.assertEqual(counts_done(((3,),), ((3,),)), ((6,),))
        # Here one product comes to the same in two ways, by one of the counts alone.
        some = ((7, 7),)
        ways = [(a, b) for a in naive.partings(7) for b in naive.partings(7)]
        made = [tuple(sum(part << i for i, part in enumerate(parts)) for parts in two) for two in ways
                if tuple(x + y for x, y in zip(*two))[1:] == (6, 3, 0, 0)]
        self.assertGreater(len(made), len(set(made)))
        self.assertEqual(counts_done(((6, 3),), some), naive.odd(made))

    def test_the_raising_parts(self):
        rng = naive.source(71)
        for n in (1, 2, 3, 7, 10):
            most, degree = naive.bounds(n)
            for k in range(1, 17 if n <= 3 else 9):
                some = naive.any_sum(rng, n, most, degree)
                self.assertEqual(counts_done(((k,),), some), raised(some, k))

    def test_single_letters_all_exponents(self):
        every = [c for r in range(17) for c in naive.counts_raising(r)]
        for e in range(25):
            for counts in every:
                self.as_parted((counts,), ((e,),))

    def test_up_to_the_bounds_few_letters(self):
        rng = naive.source(72)
        for n in (1, 2, 3):
            for _ in range(3):
                some = naive.any_sum_of_degree(rng, n, 40, 24)
                self.as_parted(naive.any_counts(rng, 12, [16]), some)
                some = naive.any_sum(rng, n, 40, 24)
                self.as_parted(naive.any_counts(rng, 12, list(range(17))), some)
        self.as_parted(naive.counts_raising(16), ((7, 7, 7), (7, 7, 10), (7, 15, 2), (8, 8, 8), (23, 0, 1), (24, 0, 0)))

    def test_up_to_the_bounds_more_letters(self):
        rng = naive.source(73)
        for n in range(4, 11):
            some = naive.any_sum_of_degree(rng, n, 8, 10)
            self.as_parted(naive.counts_raising(8), some)
            self.as_parted(naive.any_counts(rng, 12, list(range(9))), naive.any_sum(rng, n, 8, 10))
        self.assertEqual(len(self.as_parted(naive.counts_raising(8), naive.ones(10, 10))), 45 + 1260 + 1260 + 90)

    def test_multiplied_out(self):
        rng = naive.source(74)
        for n in (1, 2, 3, 4, 6):
            for _ in range(6):
                counts = naive.any_counts(rng, 5, list(range(12)))
                some = naive.any_sum(rng, n, 4, 9 if n < 4 else 7)
                self.assertEqual(counts_done(counts, some), naive.counts_by_letters(counts, some), (counts, some))

    def test_more_than_the_letters_have(self):
        self.assertEqual(counts_done(((16,),), ((5, 5, 5),)), ())
        self.assertEqual(counts_done(((16,),), ((5, 5, 6),)), ((10, 10, 12),))
        self.assertEqual(counts_done(((1,),), ((0, 0),)), ())
        self.assertEqual(counts_done(((), (1,)), ((0, 0), (0, 1))), ((0, 0), (0, 1), (0, 2)))

    def test_told_with_more_than_twelve(self):
        every = tuple(sorted(c for r in range(17) for c in naive.counts_raising(r)))
        self.as_parted(every, ((0, 7, 3), (5, 6, 7), (11, 13, 0)))

    def test_asked_again_the_same(self):
        counts = ((0, 1), (3,))
        some = ((1, 2, 3), (2, 2, 5))
        first = counts_done(counts, some)
        counts_done(((5,),), ((1,),))
        self.assertEqual(counts_done(counts, some), first)


class Need(unittest.TestCase):
    def test_ordinary(self):
        self.assertIsNone(need(()))
        self.assertEqual(need(((),)), 0)
        self.assertEqual(need(((), (5,))), 0)
        self.assertEqual(need(((5,),)), 5)
        self.assertEqual(need(((2, 2), (16,))), 4)
        self.assertEqual(need(((0, 0, 0, 1), (16,))), 1)
        self.assertEqual(need(((1, 5), (4, 4), (9, 0, 1))), 6)

    def test_the_least_number_of_letters(self):
        rng = naive.source(75)
        for raises in ([0, 1, 2], [3, 4, 6], [8], [1, 5, 7], [8], [9, 11], [16]):
            for _ in range(5):
                counts = naive.any_counts(rng, rng.randint(1, 12), raises)
                told = need(counts)
                self.assertIs(type(told), int)
                letters = [m for m in range(11) if counts_done(counts, naive.ones(10, m))]
                self.assertEqual(letters[:1], [told] if told <= 10 else [])

    def test_of_each(self):
        for r in range(17):
            for counts in naive.counts_raising(r):
                self.assertEqual(need((counts,)), sum(counts))


if __name__ == "__main__":
    unittest.main()
