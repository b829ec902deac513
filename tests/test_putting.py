import unittest

import naive
from raisedsums.putting import put_in
from raisedsums.sums import added, is_sum, multiplied


class PutIn(unittest.TestCase):
    def test_ordinary(self):
        # a becomes a + b: a a a becomes a a a + a a b + a b b + b b b.
        self.assertEqual(put_in(2, ((3,),), ((0, 1),)), ((0, 3), (1, 2), (2, 1), (3, 0)))
        self.assertEqual(put_in(2, ((2,),), ((0, 1),)), ((0, 2), (2, 0)))
        self.assertEqual(put_in(3, ((1,),), ((0, 1, 2),)), ((0, 0, 1), (0, 1, 0), (1, 0, 0)))
        # a and b both become c: a + b becomes nothing, a b becomes c c.
        self.assertEqual(put_in(3, ((0, 1), (1, 0)), ((2,), (2,))), ())
        self.assertEqual(put_in(3, ((1, 1),), ((2,), (2,))), ((0, 0, 2),))
        # The letters are exchanged.
        self.assertEqual(put_in(2, ((1, 5), (2, 0)), ((1,), (0,))), ((0, 2), (5, 1)))

    def test_empty_rows(self):
        some = ((0, 0), (0, 3), (1, 0), (2, 2))
        self.assertEqual(put_in(2, some, ((), ())), ((0, 0),))
        self.assertEqual(put_in(2, some, ((0,), ())), ((0, 0), (1, 0)))
        self.assertEqual(put_in(1, some, ((), (0,))), ((0,), (3,)))
        self.assertEqual(put_in(1, ((1, 1),), ((), (0,))), ())

    def test_no_products_and_no_letters(self):
        for n in range(1, 11):
            for m in range(1, 11):
                table = ((0,),) * n
                self.assertEqual(put_in(m, (), table), ())
                self.assertEqual(put_in(m, ((0,) * n,), table), ((0,) * m,))
                self.assertEqual(put_in(m, ((0,) * n,), ((),) * n), ((0,) * m,))

    def test_each_letter_becomes_itself(self):
        rng = naive.source(6)
        for n in range(1, 11):
            most, degree = naive.bounds(n)
            some = naive.any_sum(rng, n, most, degree)
            self.assertEqual(put_in(n, some, tuple((i,) for i in range(n))), some)

    def test_against_factor_by_factor(self):
        rng = naive.source(7)
        for n in range(1, 11):
            for m in (1, 2, 3, 4, 10):
                some = naive.any_sum(rng, n, 5, 8)
                table = naive.any_table(rng, n, m, 3 if n <= 3 else 2)
                told = put_in(m, some, table)
                self.assertEqual(told, naive.put(m, some, table), (m, some, table))
                self.assertIs(is_sum(m, told), True)

    def test_up_to_the_bounds_of_few_letters(self):
        rng = naive.source(8)
        some = naive.any_sum_of_degree(rng, 3, 60, 24)[:40]
        self.assertEqual(len(some), 40)
        for m, table in ((3, ((0, 1, 2), (0, 1, 2), (0, 1, 2))), (2, ((0, 1), (0,), (0, 1))),
                         (4, ((0, 1, 3), (1, 2, 3), (0, 2, 3)))):
            self.assertEqual(put_in(m, some, table), naive.put(m, some, table))
        alone = ((7, 7, 7),)
        table = ((0, 1, 2), (3, 4, 5), (6, 7, 8))
        self.assertEqual(len(put_in(9, alone, table)), 27 ** 3)
        told = put_in(10, some, ((0, 1, 2), (3, 4, 5), (6, 7, 9)))
        self.assertIs(is_sum(10, told), True)
        # Put together again, letter by letter, it is the sum that was.
        self.assertEqual(put_in(3, told, ((0,), (), (), (1,), (), (), (2,), (), (), ())), some)

    def test_up_to_the_bounds_of_many_letters(self):
        rng = naive.source(9)
        for n in (4, 7, 10):
            for m in (1, 4, 10):
                some = naive.any_sum_of_degree(rng, n, 8, 10)
                table = tuple(tuple(sorted(rng.sample(range(m), min(m, 2)))) for _ in range(n))
                self.assertEqual(put_in(m, some, table), naive.put(m, some, table))
        some = ((1,) * 10,)
        table = tuple((i, (i + 1)) if i < 9 else (0, 9) for i in range(10))
        self.assertEqual(put_in(10, some, table), naive.put(10, some, table))

    def test_ahead_of_adding_and_multiplying_or_behind(self):
        rng = naive.source(10)
        for n in range(1, 11):
            for m in (1, 3, 10):
                most = 6 if n <= 3 else 4
                one = naive.any_sum(rng, n, most, 6)
                other = naive.any_sum(rng, n, most, 6)
                table = naive.any_table(rng, n, m, 3 if n <= 3 else 2)
                first, second = put_in(m, one, table), put_in(m, other, table)
                self.assertEqual(put_in(m, added(one, other), table), added(first, second))
                self.assertEqual(put_in(m, multiplied(one, other), table), multiplied(first, second))

    def test_asked_again_the_same(self):
        some, table = ((1, 2), (3, 0)), ((0, 2), (1,))
        first = put_in(3, some, table)
        put_in(3, ((9, 9),), ((), (0,)))
        self.assertEqual(put_in(3, some, table), first)
        self.assertEqual((some, table), (((1, 2), (3, 0)), ((0, 2), (1,))))


if __name__ == "__main__":
    unittest.main()
