import math
import unittest

import naive
from naive import BIG
from raisedsums.errors import NoPart
from raisedsums.putting import put_in
from raisedsums.raising import odd_ways, raised, raised_whole
from raisedsums.sums import added, is_sum, multiplied

NO_PARTS = [None, True, False, "", "0", "1", -1, -BIG, [], [1], (), (1,), ((1,),), [[]]]


class OddWays(unittest.TestCase):
    def test_against_the_numbers_of_ways(self):
        for e in range(70):
            for k in range(75):
                self.assertIs(odd_ways(e, k), math.comb(e, k) % 2 == 1, (e, k))

    def test_forty_figures(self):
        full = 2 ** 130 - 1
        self.assertIs(odd_ways(full, BIG), True)
        self.assertIs(odd_ways(BIG, BIG), True)
        self.assertIs(odd_ways(BIG, 0), True)
        self.assertIs(odd_ways(0, BIG), False)
        self.assertIs(odd_ways(BIG, BIG + 1), False)
        self.assertIs(odd_ways(2 ** 128, 2 ** 128), True)
        self.assertIs(odd_ways(2 ** 128, 2 ** 127), False)
        self.assertIs(odd_ways(BIG, 1), True)
        self.assertIs(odd_ways(BIG - 1, 1), False)
        for k in range(20):
            self.assertIs(odd_ways(BIG, k), math.comb(BIG, k) % 2 == 1, k)


class Raised(unittest.TestCase):
    def test_ordinary(self):
        self.assertEqual(raised(((1,),), 1), ((2,),))
        self.assertEqual(raised(((2,),), 1), ())
        self.assertEqual(raised(((3,),), 1), ((4,),))
        self.assertEqual(raised(((3,),), 2), ((5,),))
        self.assertEqual(raised(((1, 1),), 1), ((1, 2), (2, 1)))
        self.assertEqual(raised(((2, 2),), 2), ((2, 4), (4, 2)))
        self.assertEqual(raised(((0, 1), (1, 0)), 1), ((0, 2), (2, 0)))
        # a b raised by 1, and b b, which is nothing raised by 1.
        self.assertEqual(raised(((0, 2), (1, 1)), 1), ((1, 2), (2, 1)))
        # What comes twice is gone.
        self.assertEqual(raised(((1, 2), (2, 1)), 1), ())

    def test_by_nought_by_the_degree_and_by_more(self):
        rng = naive.source(20)
        for n in range(1, 11):
            most, degree = naive.bounds(n)
            for d in (0, 1, degree // 2, degree):
                some = naive.any_sum_of_degree(rng, n, most, d)
                self.assertEqual(raised(some, 0), some)
                self.assertEqual(raised(some, d), tuple(tuple(2 * e for e in p) for p in some))
                for k in (d + 1, d + 2, 2 * d + 3, 100, BIG):
                    self.assertEqual(raised(some, k), ())
        self.assertEqual(raised(((0, 0),), 0), ((0, 0),))
        self.assertEqual(raised(((0, 0),), 1), ())
        for k in (0, 1, BIG):
            self.assertEqual(raised((), k), ())

    def test_unlike_degrees(self):
        # Each product is raised by k from its own degree.
        self.assertEqual(raised(((0,), (1,), (2,), (3,)), 1), ((2,), (4,)))
        self.assertEqual(raised(((1,), (2,), (3,)), 2), ((4,), (5,)))
        rng = naive.source(21)
        for n in (1, 2, 3, 5, 10):
            some = naive.any_sum(rng, n, 8, 7)
            for k in range(9):
                self.assertEqual(raised(some, k), naive.raised(some, k), (some, k))

    def test_up_to_the_bounds(self):
        rng = naive.source(22)
        for n in range(1, 11):
            most, degree = naive.bounds(n)
            some = naive.any_sum_of_degree(rng, n, most, degree)
            lifted = naive.whole(some)
            for k in range(degree + 2):
                told = raised(some, k)
                self.assertEqual(told, tuple(p for p in lifted if sum(p) == degree + k))
                self.assertIs(is_sum(n, told), True)
        self.assertEqual(raised(((7, 7, 7),), 21), ((14, 14, 14),))
        self.assertEqual(len(raised(((1,) * 10,), 5)), 252)

    def test_what_is_no_part(self):
        for some in ((), ((0,),), ((1, 2), (3, 4)), ((1,) * 10,)):
            for k in NO_PARTS:
                with self.assertRaises(NoPart):
                    raised(some, k)

    def test_two_sums_multiplied_and_then_raised(self):
        rng = naive.source(23)
        for n in (1, 2, 3, 4, 10):
            one = naive.any_sum(rng, n, 4, 5)
            other = naive.any_sum(rng, n, 4, 5)
            for k in range(12):
                told = ()
                for i in range(k + 1):
                    told = added(told, multiplied(raised(one, i), raised(other, k - i)))
                self.assertEqual(raised(multiplied(one, other), k), told)

    def test_letters_put_in_ahead_or_behind(self):
        rng = naive.source(24)
        for n in (1, 2, 3, 4, 10):
            for m in (1, 3, 10):
                some = naive.any_sum(rng, n, 5, 6)
                table = naive.any_table(rng, n, m, 3 if n <= 3 else 2)
                for k in range(8):
                    self.assertEqual(raised(put_in(m, some, table), k), put_in(m, raised(some, k), table))
                self.assertEqual(raised_whole(put_in(m, some, table)), put_in(m, raised_whole(some), table))

    def test_asked_again_the_same(self):
        some = ((1, 2), (3, 0))
        first = raised(some, 2)
        raised(((9, 9),), 4)
        self.assertEqual(raised(some, 2), first)


class RaisedWhole(unittest.TestCase):
    def test_ordinary(self):
        self.assertEqual(raised_whole(()), ())
        self.assertEqual(raised_whole(((0, 0),)), ((0, 0),))
        self.assertEqual(raised_whole(((1,),)), ((1,), (2,)))
        self.assertEqual(raised_whole(((3,),)), ((3,), (4,), (5,), (6,)))
        self.assertEqual(raised_whole(((2,),)), ((2,), (4,)))
        self.assertEqual(raised_whole(((1, 1),)), ((1, 1), (1, 2), (2, 1), (2, 2)))
        # a and a a raised: a a comes twice.
        self.assertEqual(raised_whole(((1,), (2,))), ((1,), (4,)))

    def test_it_is_all_parts_added(self):
        rng = naive.source(25)
        for n in range(1, 11):
            most, degree = naive.bounds(n)
            some = naive.any_sum(rng, n, most, degree)
            told = ()
            for k in range(degree + 1):
                told = added(told, raised(some, k))
            self.assertEqual(raised_whole(some), told)
            self.assertEqual(raised_whole(some), naive.whole(some))

    def test_of_two_sums_multiplied(self):
        rng = naive.source(26)
        for n in (1, 2, 3, 4, 10):
            one = naive.any_sum(rng, n, 5, 6)
            other = naive.any_sum(rng, n, 5, 6)
            self.assertEqual(raised_whole(multiplied(one, other)), multiplied(raised_whole(one), raised_whole(other)))
            self.assertEqual(raised_whole(added(one, other)), added(raised_whole(one), raised_whole(other)))


if __name__ == "__main__":
    unittest.main()
