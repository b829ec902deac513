import unittest

import naive
from naive import BIG
from raisedsums.errors import NoPart
from raisedsums.lowering import lowered, meets_oddly
from raisedsums.raising import raised
from raisedsums.sums import is_sum


class MeetsOddly(unittest.TestCase):
    def test_in_common(self):
        row = ((0, 3), (1, 2), (2, 1), (3, 0))
        self.assertIs(meets_oddly(row, ((0, 2),)), False)
        self.assertIs(meets_oddly(row, ((0, 3),)), True)
        self.assertIs(meets_oddly(row, ((0, 3), (0, 4), (5, 5))), True)
        self.assertIs(meets_oddly(row, ((0, 3), (2, 1))), False)
        self.assertIs(meets_oddly(row, ((0, 3), (1, 2), (3, 0))), True)
        self.assertIs(meets_oddly(row, row), False)
        self.assertIs(meets_oddly(row[:3], row), True)
        self.assertIs(meets_oddly(row, row[:3]), True)

    def test_no_products(self):
        for some in ((), ((0, 0),), ((1, 2), (2, 1))):
            self.assertIs(meets_oddly((), some), False)
            self.assertIs(meets_oddly(some, ()), False)

    def test_up_to_the_bounds(self):
        rng = naive.source(120)
        met = set()
        for n in (1, 2, 3, 4, 10):
            most, degree = naive.bounds(n)
            for _ in range(40):
                row, some = naive.any_sum(rng, n, most, degree), naive.any_sum(rng, n, most, degree)
                some = tuple(sorted(set(some) | set(row[::2])))
                odd = sum(1 for product in row if product in some) % 2 == 1
                self.assertIs(meets_oddly(row, some), odd)
                self.assertIs(meets_oddly(some, row), odd)
                met.add(odd)
        self.assertEqual(met, {True, False})


class Lowered(unittest.TestCase):
    def test_ordinary(self):
        self.assertEqual(lowered(((2,),), 1), ((1,),))
        self.assertEqual(lowered(((3,),), 1), ())
        self.assertEqual(lowered(((4,),), 1), ((3,),))
        self.assertEqual(lowered(((4,),), 2), ((2,),))
        self.assertEqual(lowered(((5,),), 2), ((3,),))
        self.assertEqual(lowered(((2, 2),), 1), ((1, 2), (2, 1)))
        self.assertEqual(lowered(((2, 2),), 2), ((1, 1),))
        self.assertEqual(lowered(((2, 4),), 1), ((1, 4), (2, 3)))
        self.assertEqual(lowered(((1, 1),), 1), ())

    def test_twice_is_nothing(self):
        rows = [(p, q) for p in naive.products_of(2, 8) for q in naive.products_of(2, 8) if p < q]
        # Rows of two products that have something in common when each is lowered by itself.
        gone = [row for row in rows if set(naive.lowered(row[:1], 2)) & set(naive.lowered(row[1:], 2))]
        self.assertTrue(gone)
        for row in gone:
            self.assertEqual(lowered(row, 2), naive.lowered(row, 2))

    def test_by_nought(self):
        rng = naive.source(121)
        for n in range(1, 11):
            most, degree = naive.bounds(n)
            row = naive.any_sum(rng, n, most, degree)
            self.assertEqual(lowered(row, 0), row)
        self.assertEqual(lowered((), 0), ())

    def test_by_half_of_the_degree(self):
        self.assertEqual(lowered(((8, 8, 8),), 12), ((4, 4, 4),))
        self.assertEqual(lowered(((24, 0, 0),), 12), ((12, 0, 0),))
        self.assertEqual(lowered(((1, 8, 8),), 8), ((1, 4, 4),))
        self.assertEqual(lowered(((7, 8, 9),), 12), ())
        self.assertEqual(lowered(((7, 8, 9),), 11), naive.lowered(((7, 8, 9),), 11))
        rng = naive.source(122)
        for n, d in ((1, 24), (2, 24), (3, 24), (5, 10), (10, 10), (3, 23), (4, 9)):
            row = naive.any_sum_of_degree(rng, n, 8, d)
            if d % 2 == 0:
                squares = [p for p in row if all(e % 2 == 0 for e in p)]
                self.assertEqual(lowered(row, d // 2), naive.odd([tuple(e // 2 for e in p) for p in squares]))
            self.assertEqual(lowered(row, d // 2), naive.lowered(row, d // 2))

    def test_by_more_than_half_of_the_degree(self):
        rng = naive.source(123)
        for n, d in ((1, 24), (2, 24), (3, 24), (3, 23), (4, 10), (10, 10), (10, 9)):
            row = naive.any_sum_of_degree(rng, n, 8, d)
            for k in (d // 2 + 1, d, d + 1, 100, BIG, BIG * 9):
                self.assertEqual(lowered(row, k), ())
                self.assertEqual(lowered((), k), ())

    def test_all_of_one_letter(self):
        for e in range(41):
            for k in range(e + 2):
                self.assertEqual(lowered(((e,),), k), naive.lowered(((e,),), k), (e, k))

    def test_up_to_the_bounds(self):
        rng = naive.source(124)
        for n in range(1, 11):
            most, degree = naive.bounds(n)
            for row in (naive.any_sum_of_degree(rng, n, most, degree), naive.any_sum(rng, n, most, degree)):
                for k in range(degree // 2 + 2):
                    told = lowered(row, k)
                    self.assertIs(is_sum(n, told), True)
                    self.assertEqual(told, naive.lowered(row, k), (row, k))

    def test_by_meeting(self):
        rng = naive.source(125)
        for n, d in ((1, 12), (2, 10), (3, 8), (4, 6), (6, 4)):
            row = naive.any_sum_of_degree(rng, n, 8, d)
            for k in range(d // 2 + 2):
                self.assertEqual(lowered(row, k), naive.lowered_by_meeting(row, k), (row, k))

    def test_a_raised_sum_meets_it_as_the_sum_meets_it_lowered(self):
        rng = naive.source(126)
        met = set()
        for n in (1, 2, 3, 4, 7, 10):
            most, degree = naive.bounds(n)
            for _ in range(40):
                d = rng.randint(1, degree)
                k = rng.randint(0, d // 2 + 1)
                row = naive.any_sum_of_degree(rng, n, most, d)
                some = naive.any_sum_of_degree(rng, n, most, d - k)
                odd = meets_oddly(row, raised(some, k))
                self.assertIs(meets_oddly(lowered(row, k), some), odd)
                met.add((n > 3, odd))
                some = naive.any_sum(rng, n, most, degree)
                self.assertIs(meets_oddly(lowered(row, k), some), meets_oddly(row, raised(some, k)))
        self.assertEqual(len(met), 4)

    def test_what_is_no_part(self):
        for thing in naive.STRANGE + [(), (1,), [0], "0", (0,), -3]:
            for row in ((), ((2,),), ((0, 0),), ((1, 2, 3), (2, 2, 2))):
                with self.assertRaises(NoPart, msg=(row, thing)):
                    lowered(row, thing)

    def test_asked_again_the_same(self):
        row = ((1, 6, 3), (2, 4, 4))
        first = lowered(row, 2)
        lowered(row, 3)
        wrong = [2]
        with self.assertRaises(NoPart):
            lowered(row, wrong)
        self.assertEqual(wrong, [2])
        self.assertEqual(lowered(row, 2), first)


if __name__ == "__main__":
    unittest.main()
