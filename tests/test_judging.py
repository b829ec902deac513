import copy
import itertools
import math
import unittest

import naive
from naive import BIG
from raisedsums.errors import NoPart, TooMany, Unlike
from raisedsums.judging import is_even, is_sure, judged, products_counted, rows_counted, standing
from raisedsums.lowering import lowered, meets_oddly
from raisedsums.raising import raised
from raisedsums.sums import degrees, is_sum

SMALL = [(1, d) for d in range(13)] + [(2, d) for d in range(10)] + [(3, d) for d in range(8)]
SMALL += [(4, d) for d in range(6)] + [(5, d) for d in range(5)] + [(6, 3), (7, 3), (8, 2), (9, 2), (10, 2)]
GREATEST = [(n, naive.greatest_degree(n)) for n in range(1, 11)]
# Just beyond: by the degree alone, by the number of products, by far.
BEYOND = [(1, 25), (2, 25), (3, 19), (3, 24), (3, 25), (4, 9), (4, 10), (4, 11), (5, 6), (6, 5), (7, 4), (8, 4),
          (9, 4), (10, 3), (10, 10), (10, 11)]
NO_PARTS = naive.STRANGE + [(), (3,), [3], "3", (0,), -3]


def ones_in_twos(number):
    return bin(number).count("1")


class ProductsCounted(unittest.TestCase):
    def test_against_listing(self):
        for n in range(1, 11):
            for d in range(13 if n <= 4 else 5):
                self.assertEqual(products_counted(n, d), len(naive.products_of(n, d)), (n, d))

    def test_edges(self):
        for n in range(1, 11):
            self.assertEqual(products_counted(n, 0), 1)
            self.assertEqual(products_counted(n, 1), n)
        self.assertEqual(products_counted(3, 18), 190)
        self.assertEqual(products_counted(10, 10), 92378)

    def test_forty_figures(self):
        self.assertEqual(products_counted(1, BIG), 1)
        self.assertEqual(products_counted(2, BIG), BIG + 1)
        self.assertEqual(products_counted(3, BIG), (BIG + 1) * (BIG + 2) // 2)
        for n in range(1, 11):
            for d in (BIG, 10 ** 40 - 1, 10 ** 39):
                self.assertEqual(products_counted(n, d), math.comb(d + n - 1, n - 1))


class Judged(unittest.TestCase):
    def judge(self, n, some):
        """What is told holds; told back is whether it is raised."""
        told = judged(n, some)
        self.assertIs(type(told), tuple)
        self.assertEqual(len(told), 4)
        self.assertEqual(told[1:3], (n, some))
        self.assertIs(type(told[1]), int)
        self.assertIn(told[0], ("raised", "not"))
        if told[0] == "raised":
            self.holds_raised(n, some, told[3])
        else:
            self.holds_not(n, some, told[3])
        return told[0] == "raised"

    def holds_raised(self, n, some, pairs):
        self.assertIs(type(pairs), tuple)
        self.assertLessEqual(len(pairs), 200)
        made = []
        for two in pairs:
            self.assertIs(type(two), tuple)
            k, part = two
            self.assertIs(type(k), int)
            self.assertGreaterEqual(k, 1)
            self.assertIs(is_sum(n, part), True)
            self.assertIn(degrees(part), ([], [sum(some[0]) - k]))
            made.extend(raised(part, k))
        self.assertEqual(naive.odd(made), some)

    def holds_not(self, n, some, row):
        self.assertIs(is_sum(n, row), True)
        d = sum(some[0])
        self.assertEqual(degrees(row), [d])
        self.assertIs(meets_oddly(row, some), True)
        for k in range(1, d + 1):
            self.assertEqual(lowered(row, k), ())
            if 2 * k <= d:
                for product in naive.products_of(n, d - k):
                    self.assertIs(meets_oddly(row, raised((product,), k)), False)

    def test_ordinary(self):
        self.assertEqual(judged(1, ((2,),)), ("raised", 1, ((2,),), ((1, ((1,),)),)))
        self.assertEqual(judged(1, ((3,),)), ("not", 1, ((3,),), ((3,),)))
        self.assertEqual(judged(2, ((1, 1),)), ("not", 2, ((1, 1),), ((1, 1),)))
        told = judged(2, ((1, 2), (2, 1)))
        self.assertEqual(told, ("raised", 2, ((1, 2), (2, 1)), ((1, ((1, 1),)),)))
        self.assertEqual(judged(2, ((2, 1),))[0], "not")

    def test_without_products(self):
        for n in range(1, 11):
            self.assertEqual(judged(n, ()), ("raised", n, (), ()))

    def test_the_product_without_letters(self):
        for n in range(1, 11):
            one = ((0,) * n,)
            self.assertEqual(judged(n, one), ("not", n, one, one))

    def test_all_sums_of_few_products(self):
        for n, d in SMALL:
            products = naive.products_of(n, d)
            if len(products) <= 10:
                span = naive.led(naive.all_raised(n, d))
                for some in naive.all_sums(products):
                    made = len(naive.led(list(span.values()) + [some])) == len(span)
                    self.assertIs(self.judge(n, some), made, (n, some))

    def test_raised_or_not_as_told_slowly(self):
        rng = naive.source(130)
        met = set()
        for n, d in SMALL:
            sums = [naive.any_sum_of_degree(rng, n, rng.randint(1, 8), d) for _ in range(6)]
            sums += [naive.odd(sum(rng.choices(naive.all_raised(n, d), k=few), ())) for few in (2, 6) if d]
            for some in sums:
                made = naive.is_made_of(naive.all_raised(n, d), some)
                self.assertIs(self.judge(n, some), made, (n, some))
                met.add((n, made))
        self.assertEqual(len(met), 2 * 10)

    def test_what_was_made_by_raising(self):
        rng = naive.source(131)
        for n, top in GREATEST:
            most, degree = naive.bounds(n)
            for d in range(1, top + 1):
                for several in (1, 2, 5):
                    made = []
                    for _ in range(several):
                        k = rng.randint(1, d)
                        made.extend(raised(naive.any_sum_of_degree(rng, n, 3, d - k), k))
                    self.assertIs(self.judge(n, naive.odd(made)), True)

    def test_by_every_part(self):
        # Parts that are no powers of 2 too, of the greatest degrees.
        rng = naive.source(132)
        for n, d in ((1, 24), (2, 24), (2, 23), (3, 18), (3, 17), (4, 8)):
            for k in range(1, d // 2 + 1):
                some = raised(naive.any_sum_of_degree(rng, n, 6, d - k), k)
                self.assertIs(self.judge(n, some), True, (n, d, k))

    def test_the_greatest_degrees(self):
        rng = naive.source(133)
        for n, d in GREATEST:
            most, degree = naive.bounds(n)
            for few in (1, 2, 3, most):
                self.judge(n, naive.any_sum_of_degree(rng, n, few, d))
        self.assertEqual([d for n, d in GREATEST], [24, 24, 18, 8, 5, 4, 3, 3, 3, 2])

    def test_all_products_at_once(self):
        for n, d in GREATEST:
            self.judge(n, tuple(naive.products_of(n, d)))

    def test_one_product_of_powers_less_one_is_not_raised(self):
        for product in ((7,), (15,), (3, 1), (7, 15), (1, 1, 1), (3, 7, 7), (1, 3, 1, 3), (1, 1, 1, 1, 1), (0, 3, 0)):
            self.assertIs(self.judge(len(product), (product,)), False)
            self.assertIn(product, judged(len(product), (product,))[3])

    def test_unlike(self):
        for n, some in ((1, ((1,), (2,))), (2, ((0, 0), (0, 1))), (3, ((0, 0, 3), (1, 2, 0), (2, 2, 0)))):
            with self.assertRaises(Unlike):
                judged(n, some)

    def test_unlike_ahead_of_too_many(self):
        for n, some in ((1, ((1,), (25,))), (1, ((25,), (30,))), (3, ((0, 0, 0), (8, 8, 8))), (1, ((BIG,), (BIG + 1,))),
                        (10, ((0,) * 10, (1,) * 10)), (4, ((3, 3, 3, 3), (4, 4, 4, 4)))):
            with self.assertRaises(Unlike):
                judged(n, some)
            with self.assertRaises(Unlike):
                is_even(n, some)

    def test_too_many(self):
        rng = naive.source(134)
        for n, d in BEYOND + [(1, BIG), (3, 100)]:
            for some in (((d,) + (0,) * (n - 1),), ((0,) * (n - 1) + (d,),)):
                with self.assertRaises(TooMany, msg=(n, d)):
                    judged(n, some)
            if d < 100:
                with self.assertRaises(TooMany):
                    judged(n, naive.any_sum_of_degree(rng, n, 8, d))

    def test_never_both(self):
        # A product that stands is not raised, so of two sums that it lies between not both are.
        rng = naive.source(135)
        for n, d in ((2, 8), (3, 6), (3, 18), (4, 8), (6, 4)):
            for product in standing(n, d):
                some = naive.any_sum_of_degree(rng, n, 5, d)
                more = naive.odd(some + (product,))
                self.assertFalse(self.judge(n, some) and self.judge(n, more))

    def test_asked_again_the_same(self):
        some = ((1, 2, 3), (2, 2, 2), (3, 3, 0))
        first = judged(3, some)
        judged(2, ((1, 5),))
        standing(3, 6)
        self.assertEqual(judged(3, some), first)
        self.assertEqual(some, ((1, 2, 3), (2, 2, 2), (3, 3, 0)))


class IsEven(unittest.TestCase):
    def test_ordinary(self):
        self.assertIs(is_even(1, ((3,),)), True)
        self.assertIs(is_even(1, ((2,),)), False)
        self.assertIs(is_even(2, ((1, 2), (2, 1))), True)
        self.assertIs(is_even(2, ((1, 2),)), False)
        self.assertIs(is_even(2, ((0, 0),)), True)

    def test_without_products(self):
        for n in range(1, 11):
            self.assertIs(is_even(n, ()), True)

    def test_all_rows_of_few_products(self):
        for n, d in SMALL:
            products = naive.products_of(n, d)
            if len(products) <= 10:
                for row in naive.all_sums(products):
                    self.assertIs(is_even(n, row), naive.is_even(n, d, row), (n, row))

    def test_against_lowering_and_meeting(self):
        rng = naive.source(140)
        met = set()
        for n, d in SMALL + GREATEST:
            rows = [naive.any_sum_of_degree(rng, n, few, d) for few in (1, 2, 8)]
            rows += [judged(n, (product,))[3] for product in standing(n, d)[:4]]
            for row in rows:
                even = all(lowered(row, k) == () for k in range(1, d + 1))
                self.assertIs(is_even(n, row), even)
                if (n, d) in SMALL:
                    self.assertIs(is_even(n, row), naive.is_even(n, d, row))
                met.add((n, even))
        self.assertEqual(len(met), 2 * 10)

    def test_rows_added_are_even_too(self):
        for n, d in ((2, 7), (3, 8), (3, 18), (4, 8), (5, 5)):
            rows = [judged(n, (product,))[3] for product in standing(n, d)[:6]]
            for one, other in itertools.combinations(rows, 2):
                self.assertIs(is_even(n, naive.odd(one + other)), True)

    def test_unlike(self):
        for n, row in ((1, ((1,), (2,))), (2, ((0, 0), (0, 1))), (2, ((0, 25), (0, 26)))):
            with self.assertRaises(Unlike):
                is_even(n, row)

    def test_too_many(self):
        for n, d in BEYOND + [(1, BIG), (3, 100)]:
            with self.assertRaises(TooMany, msg=(n, d)):
                is_even(n, ((d,) + (0,) * (n - 1),))


class Standing(unittest.TestCase):
    def test_ordinary(self):
        self.assertEqual(standing(1, 3), [(3,)])
        self.assertEqual(standing(1, 4), [])
        self.assertEqual(standing(2, 0), [(0, 0)])
        self.assertEqual(standing(2, 3), [(0, 3), (1, 2), (3, 0)])

    def test_against_all_raised_products(self):
        for n, d in SMALL:
            self.assertEqual(standing(n, d), naive.standing(n, d), (n, d))

    def test_a_sorted_list_of_products(self):
        for n, top in GREATEST:
            for d in range(top + 1):
                told = standing(n, d)
                self.assertIs(type(told), list)
                self.assertEqual(told, sorted(set(told)))
                self.assertIs(is_sum(n, tuple(told)), True)
                self.assertIn(degrees(tuple(told)), ([], [d]))

    def test_the_greatest_degrees_by_every_part(self):
        for n, d in GREATEST + [(3, 8), (4, 6), (2, 14)]:
            made = [raised((p,), k) for k in range(1, d // 2 + 1) for p in naive.products_of(n, d - k)]
            leads = naive.led(made)
            self.assertEqual(standing(n, d), [p for p in naive.products_of(n, d) if p not in leads])

    def test_sums_of_those_that_stand_are_not_raised(self):
        for n, d in GREATEST + [(3, 8), (4, 6), (2, 14)]:
            told = standing(n, d)
            for some in [(product,) for product in told] + list(itertools.islice(itertools.combinations(told, 2), 60)):
                self.assertEqual(judged(n, some)[0], "not")
            if told:
                self.assertEqual(judged(n, tuple(told))[0], "not")

    def test_powers_less_one_stand(self):
        for n, top in GREATEST:
            met = 0
            for exponents in itertools.combinations_with_replacement((0, 1, 3, 7, 15), n):
                if sum(exponents) <= top:
                    for product in (exponents, exponents[::-1]):
                        self.assertIn(product, standing(n, sum(exponents)))
                        met += 1
            self.assertTrue(met)

    def test_a_told_list_is_new(self):
        first = standing(3, 8)
        before = copy.copy(first)
        first.clear()
        first.append(None)
        self.assertEqual(standing(3, 8), before)
        self.assertIsNot(standing(3, 8), standing(3, 8))
        self.assertEqual(rows_counted(3, 8), len(before))

    def test_what_is_no_part(self):
        for thing in NO_PARTS:
            for n in (1, 3, 4, 10):
                for function in (standing, rows_counted, is_sure):
                    with self.assertRaises(NoPart, msg=(function, thing)):
                        function(n, thing)

    def test_no_part_ahead_of_too_many(self):
        for thing in (-BIG, -25, [BIG], (25,), str(BIG)):
            for function in (standing, rows_counted):
                with self.assertRaises(NoPart):
                    function(10, thing)

    def test_too_many(self):
        for n, d in BEYOND + [(n, BIG) for n in range(1, 11)] + [(n, 100) for n in range(1, 11)]:
            for function in (standing, rows_counted):
                with self.assertRaises(TooMany, msg=(n, d)):
                    function(n, d)


class RowsCounted(unittest.TestCase):
    def test_known(self):
        self.assertEqual([rows_counted(1, d) for d in range(17)], [1, 1, 0, 1, 0, 0, 0, 1, 0, 0, 0, 0, 0, 0, 0, 1, 0])
        self.assertEqual([rows_counted(2, d) for d in range(9)], [1, 2, 1, 3, 2, 0, 1, 3, 3])
        self.assertEqual([rows_counted(3, d) for d in range(9)], [1, 3, 3, 7, 8, 3, 6, 10, 15])

    def test_as_many_as_stand(self):
        for n, top in GREATEST:
            for d in range(top + 1):
                told = rows_counted(n, d)
                self.assertIs(type(told), int)
                self.assertEqual(told, len(standing(n, d)))

    def test_against_going_through_all_rows(self):
        for n, d in SMALL:
            products = naive.products_of(n, d)
            if len(products) <= 10:
                even = sum(1 for row in naive.all_sums(products) if naive.is_even(n, d, row))
                self.assertEqual(even, 2 ** rows_counted(n, d), (n, d))

    def test_rows_that_are_no_sums_of_others(self):
        for n, d in GREATEST + [(3, 8), (4, 6)]:
            rows = [judged(n, (product,))[3] for product in standing(n, d)]
            for row in rows:
                self.assertIs(is_even(n, row), True)
            self.assertLessEqual(len(naive.led(rows)), rows_counted(n, d))


class IsSure(unittest.TestCase):
    def test_ones_in_twos(self):
        met = set()
        for n in range(1, 11):
            for d in range(300):
                told = is_sure(n, d)
                self.assertIs(told, ones_in_twos(d + n) > n, (n, d))
                met.add((n < 7, told))
        self.assertEqual(met, {(True, True), (True, False), (False, True), (False, False)})

    def test_edges(self):
        for n in range(1, 11):
            self.assertIs(is_sure(n, 0), False)
            self.assertIs(is_sure(n, 2 ** n - 1 - n), False)
            self.assertIs(is_sure(n, 2 ** (n + 1) - 1 - n), True)
        self.assertIs(is_sure(1, 2), True)
        self.assertIs(is_sure(1, 3), False)

    def test_forty_figures(self):
        for n in range(1, 11):
            for d in (BIG, 10 ** 40 - 1, 2 ** 130 - n, 2 ** 130 - n - 1, 2 ** 130 + 2 ** 60 - n):
                self.assertIs(is_sure(n, d), ones_in_twos(d + n) > n)
        self.assertIs(is_sure(10, 2 ** 130 - 11), True)
        self.assertIs(is_sure(1, 2 ** 130 - 1), False)

    def test_where_it_is_sure_all_is_raised(self):
        rng = naive.source(150)
        sure = [(n, d) for n, top in GREATEST for d in range(top + 1) if is_sure(n, d)]
        self.assertTrue([1 for n, d in sure if n == 3])
        for n, d in sure:
            self.assertEqual(standing(n, d), [])
            self.assertEqual(rows_counted(n, d), 0)
            for product in naive.products_of(n, d)[:30]:
                self.assertEqual(judged(n, (product,))[0], "raised")
            for few in (2, 5, 20):
                self.assertEqual(judged(n, naive.any_sum_of_degree(rng, n, few, d))[0], "raised")
            self.assertIs(is_even(n, naive.any_sum_of_degree(rng, n, 4, d)), False)


if __name__ == "__main__":
    unittest.main()
