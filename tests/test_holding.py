import unittest

import naive
from raisedsums.errors import TooMany
from raisedsums.holding import held, least, ones
from raisedsums.rows import done
from raisedsums.settling import settled
from raisedsums.sums import is_sum

EIGHT = tuple(sorted(naive.rows_raising(8)))
UPTO_EIGHT = list(range(9))


def tell_apart(one, other):
    """All m whose product they make unlike sums of."""
    return [m for m in range(9) if done(one, naive.ones(8, m)) != done(other, naive.ones(8, m))]


def samples(seed, times):
    rng = naive.source(seed)
    for _ in range(times):
        raises = rng.choice([[8], [8], UPTO_EIGHT, [0, 1, 2, 3], [rng.randint(1, 8)]])
        one = naive.any_rows(rng, rng.randint(0, 6), raises)
        yield one, naive.any_rows(rng, rng.randint(0, 6), raises)
        yield one, settled(one)[:6]


class Ones(unittest.TestCase):
    def test_all(self):
        self.assertEqual(ones(0), ((0, 0, 0, 0, 0, 0, 0, 0),))
        self.assertEqual(ones(1), ((1, 0, 0, 0, 0, 0, 0, 0),))
        self.assertEqual(ones(3), ((1, 1, 1, 0, 0, 0, 0, 0),))
        self.assertEqual(ones(8), ((1, 1, 1, 1, 1, 1, 1, 1),))
        for m in range(9):
            self.assertIs(is_sum(8, ones(m)), True)
            self.assertEqual(ones(m), naive.ones(8, m))


class Held(unittest.TestCase):
    def holds(self, one, other):
        told = held(one, other)
        self.assertIsInstance(told, tuple)
        self.assertEqual(told[1:3], (one, other))
        if settled(one) == settled(other):
            self.assertEqual(told, ("same", one, other))
            self.assertEqual(tell_apart(one, other), [])
        else:
            self.assertEqual(told[0], "apart")
            self.assertEqual(len(told), 4)
            self.assertIs(type(told[3]), int)
            self.assertIn(told[3], tell_apart(one, other))
            self.assertLessEqual(told[3], max(sum(row) for row in one + other))
        self.assertEqual(held(one, other), told)

    def test_ordinary(self):
        self.assertEqual(held(((1, 2),), ((3,),)), ("same", ((1, 2),), ((3,),)))
        self.assertEqual(held(((3,),), ((1, 2),)), ("same", ((3,),), ((1, 2),)))
        self.assertEqual(held(((2, 2),), ((3, 1),)), ("same", ((2, 2),), ((3, 1),)))
        self.assertEqual(held(((1,),), ()), ("apart", ((1,),), (), 1))
        self.assertEqual(held(((8,),), ()), ("apart", ((8,),), (), 8))
        self.assertEqual(held(((), (8,)), ((),)), ("apart", ((), (8,)), ((),), 8))

    def test_no_rows_and_the_empty_row(self):
        self.assertEqual(held((), ()), ("same", (), ()))
        self.assertEqual(held(((),), ((),)), ("same", ((),), ((),)))
        self.assertEqual(held(((),), ()), ("apart", ((),), (), 0))
        self.assertEqual(held((), ((),)), ("apart", (), ((),), 0))
        self.assertEqual(held(((1, 1),), ()), ("same", ((1, 1),), ()))
        self.assertEqual(held((), ((1, 1), (3, 2))), ("same", (), ((1, 1), (3, 2))))

    def test_every_row_that_raises_by_eight(self):
        for row in EIGHT:
            self.holds((row,), ())
            self.holds((row,), settled((row,)))
            self.holds(((8,),), (row,))

    def test_up_to_the_bounds(self):
        for one, other in samples(60, 60):
            self.holds(one, other)
            self.holds(other, one)

    def test_rows_that_raise_unlike(self):
        self.holds(((1,), (2,), (3,), (4,), (5,), (6,)), ((1,), (2,), (3,), (4,), (5,), (7,)))
        self.holds(((1,), (8,)), ((2, 1), (8,)))
        self.holds(((), (1, 1)), ((), (3, 2)))
        self.holds(((), (3,)), ((), (1, 2)))

    def test_as_slowly_done(self):
        for one, other in samples(61, 40):
            one = tuple(row for row in one if sum(row) <= 6)
            other = tuple(row for row in other if sum(row) <= 6)
            told = held(one, other)
            unlike = [m for m in range(7) if naive.done(one, naive.ones(8, m)) != naive.done(other, naive.ones(8, m))]
            self.assertEqual(told[0], "apart" if unlike else "same")
            self.assertIn(told[3:], [(m,) for m in unlike] or [()])

    def test_they_do_the_same_to_sums_of_products(self):
        rng = naive.source(62)
        met = set()
        for one, other in samples(63, 25):
            word = held(one, other)[0]
            met.add(word)
            if word == "same":
                for n in (1, 2, 3, 5, 10):
                    some = naive.any_sum(rng, n, 5, 8 if n > 3 else 20)
                    self.assertEqual(done(one, some), done(other, some))
        self.assertEqual(met, {"same", "apart"})


class Least(unittest.TestCase):
    def test_each_number(self):
        self.assertIsNone(least((), ()))
        self.assertEqual(least(((),), ()), 0)
        for k in range(1, 9):
            self.assertEqual(least(((k,),), ()), k)
            self.assertEqual(least((), ((k,),)), k)
        self.assertEqual(least(((2, 1),), ()), 1)
        self.assertEqual(least(((4, 2, 1),), ()), 1)
        self.assertEqual(least(((5, 2, 1),), ()), 2)
        self.assertEqual(least(((6, 2),), ((7, 1),)), 4)
        self.assertIsNone(least(((1, 2),), ((3,),)))

    def test_it_is_the_least(self):
        for one, other in samples(64, 60):
            unlike = tell_apart(one, other)
            told = least(one, other)
            self.assertEqual(told, min(unlike) if unlike else None)
            self.assertEqual(least(other, one), told)
            self.assertEqual(told is None, settled(one) == settled(other))
            if told is not None:
                self.assertIs(type(told), int)
                self.assertLessEqual(told, max(sum(row) for row in one + other))


class TooManyToHold(unittest.TestCase):
    def refused(self, one, other):
        for told in (held, least):
            with self.assertRaises(TooMany, msg=(one, other)):
                told(one, other)
            with self.assertRaises(TooMany, msg=(other, one)):
                told(other, one)

    def test_more_than_six_rows(self):
        seven = EIGHT[:7]
        for other in ((), ((),), ((1,),), seven, EIGHT[:6], settled(seven)[:6]):
            self.refused(seven, other)
        self.refused(((), (1,), (2,), (3,), (4,), (5,), (6,)), ())
        self.refused(EIGHT[:12], EIGHT[:12])

    def test_rows_that_raise_by_more_than_eight(self):
        for row in ((9,), (8, 1), (1, 8), (5, 4), (3, 1, 1, 1, 1, 2), (16,), (1, 1, 1, 1, 1, 11)):
            for other in ((), ((),), ((1,),), (row,), EIGHT[:6]):
                self.refused((row,), other)
            self.refused(tuple(sorted(((), (8,), row))), ((8,),))

    def test_just_not_too_many(self):
        for at in range(0, len(EIGHT) - 6, 9):
            six = EIGHT[at:at + 6]
            self.assertEqual(held(six, six), ("same", six, six))
            self.assertIsNone(least(six, six))


if __name__ == "__main__":
    unittest.main()
