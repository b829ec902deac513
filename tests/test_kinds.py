import unittest

import naive
from raisedsums.counting import are_counts, counts_done
from raisedsums.kinds import counts_of, rows_by
from raisedsums.rows import are_rows, behind, done, rows_added
from raisedsums.settling import settled, steep_rows
from raisedsums.tables import times

EVERY = tuple(sorted(c for r in range(17) for c in naive.counts_raising(r)))


def samples(seed, many):
    rng = naive.source(seed)
    for _ in range(many):
        yield naive.any_rows(rng, rng.randint(1, 12), rng.choice([[16], [16], list(range(17)), [0, 1, 2, 3], [9, 12]]))


class CountsOf(unittest.TestCase):
    def test_ordinary(self):
        self.assertEqual(counts_of(()), ())
        self.assertEqual(counts_of(((),)), ((),))
        self.assertEqual(counts_of(((2, 1),)), ((0, 1), (3,)))
        self.assertEqual(counts_of(((1, 2),)), ((3,),))
        self.assertEqual(counts_of(((1, 1),)), ())
        self.assertEqual(counts_of(((2, 2),)), ((1, 1),))
        self.assertEqual(counts_of(((1, 2), (2, 1))), ((0, 1),))
        self.assertEqual(counts_of(((1, 2), (3,))), ())
        self.assertEqual(counts_of(((), (1,), (1, 1), (2, 1))), ((), (0, 1), (1,), (3,)))

    def test_one_part(self):
        for k in range(1, 17):
            self.assertEqual(counts_of(((k,),)), ((k,),))

    def test_every_row_that_raises_by_nine(self):
        for row in naive.rows_raising(9):
            self.assertEqual(counts_of((row,)), naive.counts_of((row,)), row)

    def test_up_to_the_bounds(self):
        for rows in samples(90, 80):
            told = counts_of(rows)
            self.assertIs(are_counts(told), True)
            self.assertEqual(told, naive.counts_of(rows), rows)
        for row in ((1, 1, 1, 1, 1, 11), (11, 1, 1, 1, 1, 1), (6, 4, 2, 2, 1, 1), (1, 2, 1, 4, 1, 7), (2, 6, 1, 2, 4, 1)):
            self.assertEqual(counts_of((row,)), naive.counts_of((row,)))

    def test_they_do_the_same(self):
        rng = naive.source(91)
        for rows in samples(92, 30):
            for n in (1, 2, 3):
                some = naive.any_sum(rng, n, 6, 24)
                self.assertEqual(counts_done(counts_of(rows), some), done(rows, some))
        for n in (4, 7, 10):
            for _ in range(5):
                rows = naive.any_rows(rng, 6, [3, 8])
                some = naive.any_sum(rng, n, 3, 10)
                self.assertEqual(counts_done(counts_of(rows), some), done(rows, some))

    def test_there_is_one_alone(self):
        for rows in samples(93, 20):
            self.assertEqual(counts_of(rows), counts_of(settled(rows)))
        for r in range(17):
            steep = steep_rows(r)
            made = set()
            for chosen in range(2 ** len(steep)):
                made.add(counts_of(tuple(row for i, row in enumerate(steep) if chosen >> i & 1)))
            self.assertEqual(len(made), 2 ** len(steep))

    def test_one_behind_the_other(self):
        rng = naive.source(94)
        for _ in range(60):
            r = rng.randint(0, 16)
            one = tuple(row for row in naive.any_rows(rng, 6, [r]) if len(row) <= 3)
            other = tuple(row for row in naive.any_rows(rng, 6, [16 - r]) if len(row) <= 3)
            self.assertEqual(counts_of(behind(one, other)), times(counts_of(one), counts_of(other)))
            self.assertEqual(counts_of(rows_added(one, other)), naive.odd(counts_of(one) + counts_of(other)))

    def test_told_with_more_than_twelve(self):
        rows = tuple(sorted(naive.rows_raising(8)))
        self.assertGreater(len(rows), 12)
        self.assertEqual(counts_of(rows), naive.counts_of(rows))

    def test_asked_again_the_same(self):
        rows = ((1, 2, 3, 4), (2, 2, 3, 3), (4, 6))
        first = counts_of(rows)
        counts_of(((5, 5),))
        rows_by(((5, 1),))
        self.assertEqual(counts_of(rows), first)


class RowsBy(unittest.TestCase):
    def test_ordinary(self):
        self.assertEqual(rows_by(()), ())
        self.assertEqual(rows_by(((),)), ((),))
        self.assertEqual(rows_by(((0, 1),)), ((2, 1), (3,)))
        self.assertEqual(rows_by(((0, 1), (3,))), ((2, 1),))
        self.assertEqual(rows_by(((1, 1),)), ((3, 1),))
        self.assertEqual(rows_by(((), (0, 1), (1,))), ((), (1,), (2, 1), (3,)))

    def test_one_number(self):
        for k in range(1, 17):
            self.assertEqual(rows_by(((k,),)), ((k,),))

    def test_each_by_itself(self):
        for counts in EVERY:
            told = rows_by((counts,))
            self.assertIs(are_rows(told), True)
            self.assertTrue(all(not naive.slow_places(row) for row in told), told)
            self.assertTrue(all(sum(row) == naive.counts_raise(counts) for row in told), told)
            self.assertEqual(naive.counts_of(told), (counts,))

    def test_from_rows_and_back(self):
        for rows in samples(95, 80):
            told = rows_by(counts_of(rows))
            self.assertEqual(told, settled(rows))
            self.assertEqual(told, naive.settle(rows))

    def test_from_counts_and_back(self):
        rng = naive.source(96)
        for raises in ([16], [15], list(range(17)), [3, 7, 15], [0, 1]):
            for most in (1, 3, 12):
                for _ in range(8):
                    counts = naive.any_counts(rng, most, raises)
                    told = rows_by(counts)
                    self.assertIs(are_rows(told), True)
                    self.assertTrue(all(not naive.slow_places(row) for row in told))
                    self.assertEqual(counts_of(told), counts)
        self.assertEqual(counts_of(rows_by(EVERY)), EVERY)

    def test_they_do_the_same(self):
        rng = naive.source(97)
        for n in (1, 2, 3, 5, 10):
            for _ in range(8):
                counts = naive.any_counts(rng, 6, [4, 8] if n > 3 else [8, 13, 16])
                some = naive.any_sum(rng, n, 3 if n > 3 else 6, 10 if n > 3 else 24)
                self.assertEqual(done(rows_by(counts), some), counts_done(counts, some))

    def test_as_many_counts_as_steep_rows(self):
        for r in range(17):
            steep = tuple(steep_rows(r))
            counts = naive.counts_raising(r)
            self.assertEqual(len(counts), len(steep))
            self.assertIs(are_counts(counts), True)
            self.assertEqual(len({rows_by((one,)) for one in counts}), len(steep))

    def test_each_steep_row_is_led_by_counts_of_its_own(self):
        # On this it hangs that taking counts away from the last one on ends, compared from behind.
        for r in range(17):
            for row in steep_rows(r):
                own = [part - 2 * after for part, after in zip(row, row[1:] + (0,))]
                last = max((numbers + (0,) * (4 - len(numbers)))[::-1] for numbers in naive.counts_of((row,)))
                self.assertEqual(list(last[::-1]), own + [0] * (4 - len(own)))

    def test_asked_again_the_same(self):
        counts = ((0, 1), (1, 2), (4, 4))
        first = rows_by(counts)
        rows_by(((16,),))
        self.assertEqual(rows_by(counts), first)


if __name__ == "__main__":
    unittest.main()
