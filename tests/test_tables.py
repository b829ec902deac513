import unittest

import naive
from raisedsums.counting import are_counts, counts_done
from raisedsums.errors import TooMany
from raisedsums.tables import times

EVERY = {r: naive.counts_raising(r) for r in range(17)}


class Times(unittest.TestCase):
    def as_by_all_tables(self, one, other):
        told = times(one, other)
        self.assertEqual(told, naive.counts_times(one, other), (one, other))
        self.assertIs(are_counts(told), True)
        return told

    def test_ordinary(self):
        self.assertEqual(times(((1,),), ((1,),)), ())
        self.assertEqual(times(((1,),), ((2,),)), ((3,),))
        self.assertEqual(times(((2,),), ((1,),)), ((0, 1), (3,)))
        self.assertEqual(times(((2,),), ((2,),)), ((1, 1),))
        self.assertEqual(times(((0, 1),), ((0, 1),)), ())
        self.assertEqual(times(((0, 2),), ((1,),)), ((0, 0, 1), (1, 2)))
        self.assertEqual(times(((1,),), ((0, 2),)), ((1, 2),))
        self.assertEqual(times(((4,),), ((0, 1),)), ((0, 0, 1), (4, 1)))
        self.assertEqual(times(((0, 4),), ((0, 1),)), ((0, 0, 0, 1), (0, 5)))

    def test_without_numbers(self):
        for r in range(17):
            for one in (EVERY[r], EVERY[r][:1], EVERY[r][-1:]):
                self.assertEqual(times(one, ((),)), one)
                self.assertEqual(times(((),), one), one)
        self.assertEqual(times(((),), ((),)), ((),))

    def test_no_counts(self):
        for one in ((), ((),), ((1,),), EVERY[16], ((16,),)):
            self.assertEqual(times(one, ()), ())
            self.assertEqual(times((), one), ())

    def test_every_two_that_raise_by_sixteen(self):
        for r in range(17):
            for one in EVERY[r]:
                for other in EVERY[16 - r]:
                    self.as_by_all_tables((one,), (other,))

    def test_every_two_that_raise_by_less(self):
        for r in range(13):
            for s in range(13 - r):
                for one in EVERY[r]:
                    for other in EVERY[s]:
                        self.as_by_all_tables((one,), (other,))

    def test_sums(self):
        rng = naive.source(80)
        for _ in range(60):
            r = rng.randint(0, 16)
            one = naive.any_counts(rng, 12, [r] if rng.random() < 0.5 else list(range(r + 1)))
            other = naive.any_counts(rng, 12, list(range(17 - r)))
            self.as_by_all_tables(one, other)
        for r in range(17):
            self.as_by_all_tables(EVERY[r], EVERY[16 - r])

    def test_made_twice_is_nothing(self):
        # (4, 1) is made of the second and the first, and of the first and the second.
        self.assertIn((4, 1), times(((4,),), ((0, 1),)))
        self.assertEqual(times(((),), ((4, 1),)), ((4, 1),))
        self.assertNotIn((4, 1), times(((), (4,)), ((0, 1), (4, 1))))
        self.assertEqual(times(((1,), (3,)), ((), (2,))), ((1,),))
        for r in range(1, 9):
            for s in range(1, 9):
                made = [m for a in EVERY[r] for b in EVERY[s] for m in naive.tables(a, b)]
                self.assertEqual(times(EVERY[r], EVERY[s]), naive.odd(made))

    def test_the_second_one_is_done_first(self):
        rng = naive.source(81)
        for n in (1, 2, 3):
            for _ in range(12):
                r = rng.randint(0, 16)
                one = naive.any_counts(rng, 3, [r])
                other = naive.any_counts(rng, 3, [rng.randint(0, 16 - r)])
                some = naive.any_sum(rng, n, 6, 18)
                self.assertEqual(counts_done(times(one, other), some), counts_done(one, counts_done(other, some)))
        for n in (4, 8, 10):
            for _ in range(6):
                r = rng.randint(0, 8)
                one = naive.any_counts(rng, 3, [r])
                other = naive.any_counts(rng, 3, [8 - r])
                some = naive.any_sum(rng, n, 2, 8)
                self.assertEqual(counts_done(times(one, other), some), counts_done(one, counts_done(other, some)))
        self.assertNotEqual(times(((1,),), ((2,),)), times(((2,),), ((1,),)))

    def test_three_one_behind_the_other(self):
        rng = naive.source(82)
        for _ in range(40):
            r, s = rng.randint(0, 6), rng.randint(0, 5)
            a, b, c = (naive.any_counts(rng, 4, [k]) for k in (r, s, 16 - r - s))
            self.assertEqual(times(times(a, b), c), times(a, times(b, c)))

    def test_too_many(self):
        for r in range(17):
            for s in range(17):
                for one in (EVERY[r], EVERY[r][:1]):
                    for other in (EVERY[s], EVERY[s][-1:]):
                        if r + s > 16:
                            with self.assertRaises(TooMany, msg=(one, other)):
                                times(one, other)
                        else:
                            times(one, other)

    def test_too_many_of_two_alone(self):
        for one, other in ((((), (9,)), ((), (8,))), (((), (16,)), ((), (1,))), (((1,), (16,)), ((),) + ((1,),)),
                           (((0, 0, 0, 1), (1,)), ((1,), (2,))), (((1, 5), (2,)), ((1,),))):
            with self.assertRaises(TooMany):
                times(one, other)
            with self.assertRaises(TooMany):
                times(other, one)
        # What the one that raises by more is multiplied with matters, not what else is there.
        self.assertEqual(times(((), (16,)), ((),)), ((), (16,)))
        self.assertEqual(times(((), (9,)), ((7,),)), naive.counts_times(((), (9,)), ((7,),)))

    def test_told_with_more_than_twelve(self):
        low = tuple(sorted(c for r in range(9) for c in EVERY[r]))
        self.assertGreater(len(low), 12)
        self.as_by_all_tables(low, low)

    def test_asked_again_the_same(self):
        one, other = ((0, 1), (3,)), ((2,), (4, 1))
        first = times(one, other)
        with self.assertRaises(TooMany):
            times(((16,),), other)
        times(other, one)
        self.assertEqual(times(one, other), first)


if __name__ == "__main__":
    unittest.main()
