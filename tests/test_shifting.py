import copy
import unittest

import naive
from naive import BIG
from raisedsums.errors import NoPart
from raisedsums.raising import raised
from raisedsums.rows import done
from raisedsums.shifting import shifted
from raisedsums.sums import is_sum, multiplied
from raisedsums.turning import part_turned


class Shifted(unittest.TestCase):
    def shifts(self, k, f, g):
        told = shifted(k, f, g)
        self.assertIsInstance(told, list)
        self.assertEqual([type(two) for two in told], [tuple] * (k + 1))
        self.assertEqual([i for i, some in told], list(range(k + 1)))
        back = []
        for i, some in told:
            self.assertIs(is_sum(len((f + g + ((),))[0]), some), True)
            self.assertEqual(some, multiplied(done(part_turned(k - i), f), g))
            back.extend(raised(some, i))
        self.assertEqual(naive.odd(back), multiplied(f, raised(g, k)), (k, f, g))

    def test_ordinary(self):
        a, b = ((1, 0),), ((0, 1),)
        self.assertEqual(shifted(0, a, b), [(0, ((1, 1),))])
        self.assertEqual(shifted(1, a, b), [(0, ((2, 1),)), (1, ((1, 1),))])
        self.assertEqual(shifted(2, a, b), [(0, ()), (1, ((2, 1),)), (2, ((1, 1),))])
        self.assertEqual(shifted(3, a, b), [(0, ((4, 1),)), (1, ()), (2, ((2, 1),)), (3, ((1, 1),))])

    def test_as_told_slowly(self):
        rng = naive.source(110)
        for n in (1, 2, 3, 4):
            for k in range(6):
                f, g = naive.any_sum(rng, n, 4, 6), naive.any_sum(rng, n, 4, 6)
                slow = [(i, naive.times(naive.done(naive.part_turned(k - i), f), g)) for i in range(k + 1)]
                self.assertEqual(shifted(k, f, g), slow)

    def test_few_letters(self):
        rng = naive.source(111)
        for n in (1, 2, 3):
            for k in range(9):
                self.shifts(k, naive.any_sum(rng, n, 6, 24), naive.any_sum(rng, n, 6, 24))
                self.shifts(k, naive.any_sum_of_degree(rng, n, 6, 24), naive.any_sum_of_degree(rng, n, 6, 24))

    def test_more_letters(self):
        rng = naive.source(112)
        for n in range(4, 11):
            for k in range(9):
                self.shifts(k, naive.any_sum(rng, n, 3, 6), naive.any_sum(rng, n, 3, 6))
        self.shifts(8, naive.any_sum_of_degree(rng, 6, 6, 10), naive.any_sum_of_degree(rng, 6, 6, 10))
        self.shifts(7, naive.any_sum_of_degree(rng, 8, 6, 10), naive.any_sum_of_degree(rng, 8, 6, 10))
        self.shifts(8, naive.any_sum_of_degree(rng, 10, 2, 10), naive.any_sum(rng, 10, 2, 10))

    def test_without_products(self):
        for k in range(9):
            nothing = [(i, ()) for i in range(k + 1)]
            self.assertEqual(shifted(k, (), ()), nothing)
            self.assertEqual(shifted(k, ((1, 2),), ()), nothing)
            self.assertEqual(shifted(k, (), ((1, 2),)), nothing)

    def test_the_product_without_letters(self):
        one = ((0, 0),)
        for k in range(9):
            self.shifts(k, one, ((3, 5),))
            self.shifts(k, ((3, 5),), one)
            self.assertEqual(shifted(k, one, ((3, 5),))[k], (k, ((3, 5),)))

    def test_what_is_no_part(self):
        for thing in naive.STRANGE + [9, 10, 16, BIG, (), (1,), [8], "8"]:
            for f, g in ((((1, 0),), ((0, 1),)), ((), ()), (((1,),), ())):
                with self.assertRaises(NoPart, msg=thing):
                    shifted(thing, f, g)

    def test_a_told_list_is_new(self):
        f, g = ((1, 3), (2, 2)), ((0, 5),)
        first = shifted(4, f, g)
        before = copy.deepcopy(first)
        first.clear()
        first.append(None)
        self.assertEqual(shifted(4, f, g), before)
        self.assertIsNot(shifted(4, f, g), shifted(4, f, g))
        shifted(8, g, f)
        self.assertEqual(shifted(4, f, g), before)
        self.assertEqual((f, g), (((1, 3), (2, 2)), ((0, 5),)))


if __name__ == "__main__":
    unittest.main()
