import unittest

import naive
from naive import BIG
from raisedsums.counting import are_counts, counts_done
from raisedsums.errors import NoPart
from raisedsums.kinds import counts_of, rows_by
from raisedsums.rows import are_rows, behind, done, rows_added
from raisedsums.settling import settled
from raisedsums.tables import times
from raisedsums.turning import counts_turned, part_turned, turned

EVERY = tuple(sorted(c for r in range(17) for c in naive.counts_raising(r)))


def samples(seed, many):
    rng = naive.source(seed)
    for _ in range(many):
        yield naive.any_rows(rng, rng.randint(1, 12), rng.choice([[16], [16], list(range(17)), [0, 1, 2, 3], [9, 12]]))


class PartTurned(unittest.TestCase):
    def test_ordinary(self):
        self.assertEqual(part_turned(0), ((),))
        self.assertEqual(part_turned(1), ((1,),))
        self.assertEqual(part_turned(2), ((2,),))
        self.assertEqual(part_turned(3), ((2, 1),))
        self.assertEqual(part_turned(4), ((3, 1), (4,)))
        self.assertEqual(part_turned(7), ((4, 2, 1),))

    def test_all_by_exchanges(self):
        for k in range(17):
            told = part_turned(k)
            self.assertEqual(told, naive.part_turned(k))
            self.assertIs(are_rows(told), True)
            self.assertTrue(all(not naive.slow_places(row) for row in told))
            self.assertTrue(all(sum(row) == k for row in told))

    def test_all_counts_that_raise_so(self):
        for k in range(17):
            self.assertEqual(counts_of(part_turned(k)), naive.counts_raising(k))

    def test_with_all_parts_ahead_it_is_nothing(self):
        for k in range(1, 17):
            left = right = ()
            for i in range(k + 1):
                ahead = ((i,),) if i else ((),)
                left = rows_added(left, behind(ahead, part_turned(k - i)))
                right = rows_added(right, behind(part_turned(k - i), ahead))
            self.assertEqual(settled(left), ())
            self.assertEqual(settled(right), ())

    def test_what_is_no_part(self):
        for thing in naive.STRANGE + [17, 18, 40, BIG, (), (1,), (16,), [16], "16"]:
            with self.assertRaises(NoPart, msg=thing):
                part_turned(thing)

    def test_asked_again_the_same(self):
        first = [part_turned(k) for k in range(17)]
        turned(((3, 4), (5,)))
        self.assertEqual([part_turned(k) for k in reversed(range(17))], first[::-1])
        wrong = [3]
        with self.assertRaises(NoPart):
            part_turned(wrong)
        self.assertEqual(wrong, [3])


class Turned(unittest.TestCase):
    def test_ordinary(self):
        self.assertEqual(turned(()), ())
        self.assertEqual(turned(((),)), ((),))
        self.assertEqual(turned(((2, 1),)), ((3,),))
        self.assertEqual(turned(((3,),)), ((2, 1),))
        self.assertEqual(turned(((1, 2),)), ((2, 1),))
        self.assertEqual(turned(((1, 1),)), ())
        self.assertEqual(turned(((), (1,), (2, 1), (3,))), ((), (1,), (2, 1), (3,)))

    def test_one_part(self):
        for k in range(1, 17):
            self.assertEqual(turned(((k,),)), part_turned(k))

    def test_every_row_that_raises_by_eight(self):
        for row in naive.rows_raising(8):
            self.assertEqual(turned((row,)), naive.turned((row,)), row)

    def test_up_to_the_bounds(self):
        for rows in samples(100, 60):
            told = turned(rows)
            self.assertIs(are_rows(told), True)
            self.assertTrue(all(not naive.slow_places(row) for row in told))
            self.assertEqual(told, naive.turned(rows), rows)
        for row in ((1, 1, 1, 1, 1, 11), (11, 1, 1, 1, 1, 1), (6, 4, 2, 2, 1, 1), (1, 2, 1, 4, 1, 7), (2, 6, 1, 2, 4, 1)):
            self.assertEqual(turned((row,)), naive.turned((row,)))

    def test_turned_twice(self):
        for rows in samples(101, 80):
            self.assertEqual(turned(turned(rows)), settled(rows), rows)
            self.assertEqual(turned(settled(rows)), turned(rows))

    def test_the_other_way_round(self):
        rng = naive.source(102)
        for _ in range(60):
            r = rng.randint(0, 16)
            s = rng.choice([16 - r, rng.randint(0, 16 - r)])
            one = tuple(row for row in naive.any_rows(rng, 6, [r]) if len(row) <= 3)
            other = tuple(row for row in naive.any_rows(rng, 6, [s]) if len(row) <= 3)
            told = turned(behind(one, other))
            self.assertEqual(told, settled(behind(turned(other), turned(one))))
        self.assertNotEqual(turned(((1, 2),)), turned(((2, 1),)))

    def test_each_row_by_itself(self):
        for rows in samples(103, 20):
            self.assertEqual(turned(rows), naive.odd([made for row in rows for made in turned((row,))]))

    def test_told_with_more_than_twelve(self):
        rows = tuple(sorted(naive.rows_raising(8)))
        self.assertEqual(turned(rows), naive.turned(rows))
        self.assertEqual(turned(turned(rows)), settled(rows))

    def test_asked_again_the_same(self):
        rows = ((1, 2, 3, 4), (2, 2, 3, 3), (4, 6))
        first = turned(rows)
        turned(((5, 5),))
        self.assertEqual(turned(rows), first)


class CountsTurned(unittest.TestCase):
    def test_ordinary(self):
        self.assertEqual(counts_turned(()), ())
        self.assertEqual(counts_turned(((),)), ((),))
        self.assertEqual(counts_turned(((3,),)), ((0, 1), (3,)))
        self.assertEqual(counts_turned(((0, 1),)), ((0, 1),))
        for k in range(17):
            self.assertEqual(counts_turned(((k,),) if k else ((),)), naive.counts_raising(k))

    def test_what_the_turned_rows_are(self):
        for rows in samples(104, 60):
            told = counts_turned(counts_of(rows))
            self.assertIs(are_counts(told), True)
            self.assertEqual(told, counts_of(turned(rows)))
            self.assertEqual(rows_by(told), turned(rows))

    def test_it_does_what_the_turned_rows_do(self):
        rng = naive.source(105)
        for n in (1, 2, 3, 5, 10):
            for _ in range(6):
                counts = naive.any_counts(rng, 6, [4, 8] if n > 3 else [8, 13, 16])
                some = naive.any_sum(rng, n, 3 if n > 3 else 6, 10 if n > 3 else 24)
                told = counts_done(counts_turned(counts), some)
                self.assertEqual(told, done(turned(rows_by(counts)), some))
                self.assertEqual(told, naive.counts_done(counts_turned(counts), some))

    def test_turned_twice(self):
        rng = naive.source(106)
        for counts in EVERY:
            self.assertEqual(counts_turned(counts_turned((counts,))), (counts,))
        for _ in range(60):
            counts = naive.any_counts(rng, 12, rng.choice([[16], list(range(17))]))
            self.assertEqual(counts_turned(counts_turned(counts)), counts)
        self.assertEqual(counts_turned(counts_turned(EVERY)), EVERY)

    def test_the_other_way_round(self):
        rng = naive.source(107)
        for _ in range(40):
            r = rng.randint(0, 16)
            one, other = naive.any_counts(rng, 4, [r]), naive.any_counts(rng, 4, [16 - r])
            self.assertEqual(counts_turned(times(one, other)), times(counts_turned(other), counts_turned(one)))

    def test_asked_again_the_same(self):
        counts = ((0, 1), (1, 2), (4, 4))
        first = counts_turned(counts)
        counts_turned(((16,),))
        self.assertEqual(counts_turned(counts), first)


if __name__ == "__main__":
    unittest.main()
