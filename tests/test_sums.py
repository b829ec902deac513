import copy
import unittest

import naive
from naive import BIG
from raisedsums.errors import NoProduct, RaisedError
from raisedsums.sums import added, degrees, is_sum, multiplied, of_degree, sum_of


class IsSum(unittest.TestCase):
    def yes(self, n, thing):
        self.assertIs(is_sum(n, thing), True, (n, thing))

    def no(self, n, thing):
        self.assertIs(is_sum(n, thing), False, (n, thing))

    def test_ordinary(self):
        self.yes(1, ((3,),))
        self.yes(2, ((0, 1), (1, 0)))
        self.yes(3, ((0, 0, 9), (0, 1, 0), (2, 0, 0)))
        self.yes(10, ((0,) * 9 + (1,), (1,) * 10))

    def test_no_products_and_no_letters(self):
        for n in range(1, 11):
            self.yes(n, ())
            self.yes(n, ((0,) * n,))

    def test_no_bounds_here(self):
        self.yes(1, ((BIG,),))
        self.yes(3, ((0, 0, 0), (BIG, BIG, BIG)))
        self.yes(1, tuple((e,) for e in range(100)))
        self.yes(10, tuple((e,) + (BIG,) * 9 for e in range(20)))

    def test_strange_things(self):
        for n in (1, 2, 10):
            for thing in naive.STRANGE:
                self.no(n, thing)

    def test_strange_things_within(self):
        for strange in (None, True, False, "1", [1], (1,), -1, -BIG):
            self.no(2, ((0, 1), (1, strange)))
            self.no(2, ((0, 1), (strange, 5)))
            self.no(2, ((0, 1), strange))
            self.no(2, (strange, (9, 9)))

    def test_lists_in_the_place_of_tuples(self):
        self.no(2, [(0, 1), (1, 0)])
        self.no(2, ((0, 1), [1, 0]))
        self.no(2, [[0, 1], [1, 0]])

    def test_a_letter_more_or_fewer(self):
        for n in range(1, 11):
            self.no(n, ((1,) * (n + 1),))
            self.no(n, ((1,) * (n - 1),))
            self.no(n, ((0,) * n, (1,) * (n - 1)))
            self.no(n, ((0,) * n, (1,) * (n + 1)))

    def test_a_product_twice(self):
        self.no(1, ((2,), (2,)))
        self.no(2, ((0, 1), (1, 0), (1, 0)))
        self.no(10, ((0,) * 10, (0,) * 10))

    def test_two_neighbours_exchanged(self):
        rng = naive.source(1)
        for n in range(1, 11):
            some = list(naive.any_sum(rng, n, 8, 10))
            self.yes(n, tuple(some))
            for place in range(len(some) - 1):
                other = list(some)
                other[place], other[place + 1] = other[place + 1], other[place]
                self.no(n, tuple(other))


class SumOf(unittest.TestCase):
    def test_once_twice_three_times(self):
        self.assertEqual(sum_of(1, []), ())
        self.assertEqual(sum_of(1, [(5,)]), ((5,),))
        self.assertEqual(sum_of(1, [(5,), (5,)]), ())
        self.assertEqual(sum_of(1, [(5,), (5,), (5,)]), ((5,),))
        self.assertEqual(sum_of(2, [(1, 1), (0, 2), (1, 1), (0, 0), (1, 1), (0, 2)]), ((0, 0), (1, 1)))
        self.assertEqual(sum_of(3, [(BIG, 0, 0), (0, 0, BIG)]), ((0, 0, BIG), (BIG, 0, 0)))

    def test_against_counting(self):
        rng = naive.source(2)
        for n in (1, 2, 3, 7, 10):
            for _ in range(20):
                things = [tuple(rng.randint(0, 1) for _ in range(n)) for _ in range(12)]
                told = sum_of(n, things)
                self.assertEqual(told, naive.odd(things))
                self.assertIs(is_sum(n, told), True)

    def refused(self, n, things, at):
        with self.assertRaises(NoProduct) as told:
            sum_of(n, things)
        self.assertEqual(told.exception.at, at, things)
        self.assertIsInstance(told.exception, RaisedError)

    def test_each_strange_thing_is_refused(self):
        for thing in naive.STRANGE:
            self.refused(3, [thing], 0)
            self.refused(3, [(1, 1, 1), (1, 1, 1), thing, (0, 0, 0)], 2)
        self.refused(1, [(1,), (True,)], 1)
        self.refused(1, [(True,)], 0)
        self.refused(2, [(0, 0), (0, 1), (1, -1)], 2)
        self.refused(2, [(0, 0), ((0, 1),)], 1)

    def test_the_first_of_several(self):
        self.refused(2, [(1, 1), (1,), (1, 1, 1), None], 1)
        self.refused(2, [None, (1,), (1, 1, 1)], 0)
        self.refused(2, [(0, 0), (1, 1), (0, 0), [1, 1], "a", (0, False)], 3)

    def test_a_letter_more_or_fewer(self):
        for n in range(1, 11):
            self.refused(n, [(0,) * n, (0,) * (n + 1)], 1)
            self.refused(n, [(0,) * n, (0,) * (n - 1)], 1)


class AddedMultiplied(unittest.TestCase):
    def test_ordinary(self):
        self.assertEqual(added(((0, 1), (1, 0)), ((0, 0), (1, 0))), ((0, 0), (0, 1)))
        # (a + b) (a + b) is a a + b b.
        self.assertEqual(multiplied(((0, 1), (1, 0)), ((0, 1), (1, 0))), ((0, 2), (2, 0)))
        # (a + b) (a a + a b + b b) is a a a + b b b.
        self.assertEqual(multiplied(((0, 1), (1, 0)), ((0, 2), (1, 1), (2, 0))), ((0, 3), (3, 0)))
        self.assertEqual(multiplied(((2, 3),), ((5, 7),)), ((7, 10),))

    def test_with_itself_and_with_none(self):
        rng = naive.source(3)
        for n in range(1, 11):
            most, degree = naive.bounds(n)
            some = naive.any_sum(rng, n, most, degree)
            self.assertEqual(added(some, some), ())
            self.assertEqual(added(some, ()), some)
            self.assertEqual(added((), some), some)
            self.assertEqual(multiplied(some, ()), ())
            self.assertEqual(multiplied((), some), ())
            self.assertEqual(multiplied(some, ((0,) * n,)), some)
            self.assertEqual(multiplied(some, some), tuple(tuple(2 * e for e in p) for p in some))
        self.assertEqual(added((), ()), ())
        self.assertEqual(multiplied((), ()), ())

    def test_up_to_the_bounds(self):
        rng = naive.source(4)
        for n in range(1, 11):
            most, degree = naive.bounds(n)
            for _ in range(3):
                one = naive.any_sum(rng, n, most, degree)
                other = naive.any_sum(rng, n, most, degree)
                self.assertEqual(added(one, other), naive.odd(one + other))
                self.assertEqual(multiplied(one, other), naive.times(one, other))
                self.assertIs(is_sum(n, added(one, other)), True)
                self.assertIs(is_sum(n, multiplied(one, other)), True)
                self.assertEqual(multiplied(one, other), multiplied(other, one))


class Degrees(unittest.TestCase):
    def test_degrees(self):
        self.assertEqual(degrees(()), [])
        self.assertEqual(degrees(((0, 0, 0),)), [0])
        self.assertEqual(degrees(((0, 3), (1, 2), (3, 0))), [3])
        self.assertEqual(degrees(((0, 9), (1, 2), (3, 0), (4, 0))), [3, 4, 9])
        self.assertEqual(degrees(((2,), (11,), (24,))), [2, 11, 24])

    def test_of_degree(self):
        some = ((0, 9), (1, 2), (3, 0), (4, 0))
        self.assertEqual(of_degree(some, 3), ((1, 2), (3, 0)))
        self.assertEqual(of_degree(some, 4), ((4, 0),))
        self.assertEqual(of_degree(((0, 3), (1, 2)), 3), ((0, 3), (1, 2)))
        for d in (0, 2, 5, 8, 10, BIG, -BIG, -1):
            self.assertEqual(of_degree(some, d), ())
            self.assertEqual(of_degree((), d), ())
        self.assertEqual(of_degree(((0, 0), (0, 1)), 0), ((0, 0),))

    def test_the_parts_come_to_the_whole(self):
        rng = naive.source(5)
        for n in range(1, 11):
            most, degree = naive.bounds(n)
            some = naive.any_sum(rng, n, most, degree)
            told = ()
            for d in degrees(some):
                self.assertTrue(of_degree(some, d))
                told = added(told, of_degree(some, d))
            self.assertEqual(told, some)
            self.assertEqual(degrees(some), sorted({sum(p) for p in some}))


class NothingIsChanged(unittest.TestCase):
    def test_a_list_handed_in_stays(self):
        things = [(2, 0), (0, 2), (2, 0), (1, 1)]
        before = copy.deepcopy(things)
        told = sum_of(2, things)
        self.assertEqual(things, before)
        things.append((5, 5))
        things[0] = None
        self.assertEqual(told, ((0, 2), (1, 1)))
        wrong = [(1, 1), [1, 1], [[]]]
        with self.assertRaises(NoProduct):
            sum_of(2, wrong)
        self.assertEqual(wrong, [(1, 1), [1, 1], [[]]])

    def test_a_told_list_is_new(self):
        some = ((0, 9), (1, 2), (3, 0))
        first = degrees(some)
        first.append(100)
        first[0] = -1
        second = degrees(some)
        self.assertEqual(second, [3, 9])
        self.assertIsNot(degrees(some), second)
        self.assertIsNot(degrees(()), degrees(()))

    def test_asked_again_the_same(self):
        one = ((0, 9), (1, 2), (3, 0))
        other = ((0, 0), (1, 2))
        told = [(added(one, other), multiplied(one, other), degrees(one), of_degree(one, 3)) for _ in range(3)]
        self.assertEqual(told[0], told[1])
        self.assertEqual(told[0], told[2])


if __name__ == "__main__":
    unittest.main()
