import unittest

import naive
from raisedsums.halving import doubled, halved
from raisedsums.judging import judged, products_counted, rows_counted
from raisedsums.raising import raised
from raisedsums.sums import is_sum


class Halved(unittest.TestCase):
    def test_ordinary(self):
        self.assertEqual(halved(((1, 3), (5, 7))), ((0, 1), (2, 3)))
        self.assertEqual(halved(((1,), (3,), (4,), (9,))), ((0,), (1,), (4,)))
        self.assertEqual(halved(((1, 1, 1),)), ((0, 0, 0),))

    def test_an_even_exponent_is_gone(self):
        self.assertEqual(halved(((0, 0),)), ())
        self.assertEqual(halved(((1, 2), (2, 1), (3, 0))), ())
        self.assertEqual(halved(((1, 1, 4), (1, 3, 5), (2, 2, 2))), ((0, 1, 2),))

    def test_without_products(self):
        self.assertEqual(halved(()), ())
        self.assertEqual(doubled(()), ())

    def test_as_told_slowly(self):
        rng = naive.source(160)
        for n in range(1, 11):
            most, degree = naive.bounds(n)
            for d in range(degree + 1):
                some = naive.any_sum_of_degree(rng, n, most, d)
                odd = [p for p in some if all(e % 2 for e in p)]
                told = halved(some)
                self.assertEqual(told, naive.odd([tuple((e - 1) // 2 for e in p) for p in odd]))
                self.assertIs(is_sum(n, told), True)
                self.assertIs(is_sum(n, halved(naive.any_sum(rng, n, most, degree))), True)

    def test_raised_by_an_odd_part_and_halved_is_nothing(self):
        rng = naive.source(161)
        for n in range(1, 11):
            most, degree = naive.bounds(n)
            for k in range(1, degree + 2, 2):
                self.assertEqual(halved(raised(naive.any_sum(rng, n, most, degree), k)), ())
                self.assertEqual(halved(raised(doubled(naive.any_sum(rng, n, most, degree // 2)), k)), ())

    def test_raised_by_twice_k_and_halved(self):
        rng = naive.source(162)
        met = 0
        for n in range(1, 11):
            most, degree = naive.bounds(n)
            for k in range(degree // 2 + 1):
                for some in (naive.any_sum(rng, n, most, degree), doubled(naive.any_sum(rng, n, 6, degree // 2))):
                    told = halved(raised(some, 2 * k))
                    self.assertEqual(told, raised(halved(some), k))
                    met += len(told) > 0
        self.assertGreater(met, 50)

    def test_halved_raised_sums_are_raised(self):
        rng = naive.source(163)
        met = 0
        for n, d in ((1, 24), (1, 9), (2, 24), (2, 10), (3, 17), (3, 11), (4, 8), (4, 6), (5, 5)):
            for _ in range(30):
                made = []
                for _ in range(4):
                    k = rng.randint(1, d // 2)
                    made.extend(raised(naive.any_sum_of_degree(rng, n, 9, d - k), k))
                told = halved(naive.odd(made))
                self.assertEqual(judged(n, told)[0], "raised")
                met += len(told) > 0
        self.assertGreater(met, 20)

    def test_asked_again_the_same(self):
        some = ((1, 3), (5, 7))
        first = (halved(some), doubled(some))
        halved(((3, 3),))
        self.assertEqual((halved(some), doubled(some)), first)
        self.assertEqual(some, ((1, 3), (5, 7)))


class Doubled(unittest.TestCase):
    def test_ordinary(self):
        self.assertEqual(doubled(((0, 1), (2, 3))), ((1, 3), (5, 7)))
        self.assertEqual(doubled(((0,),)), ((1,),))
        self.assertEqual(doubled(((24, 0, 0),)), ((49, 1, 1),))

    def test_doubled_and_halved_it_is_the_sum_again(self):
        rng = naive.source(164)
        for n in range(1, 11):
            most, degree = naive.bounds(n)
            for _ in range(20):
                some = naive.any_sum(rng, n, most, degree)
                self.assertIs(is_sum(n, doubled(some)), True)
                self.assertEqual(halved(doubled(some)), some)

    def test_no_fewer_rows_of_twice_the_degree_and_n_more(self):
        met = 0
        for n in range(1, 11):
            top = 24 if n <= 3 else 10
            for d in range(top + 1):
                if 2 * d + n <= top and products_counted(n, 2 * d + n) <= 200:
                    self.assertGreaterEqual(rows_counted(n, 2 * d + n), rows_counted(n, d))
                    met += 1
        self.assertGreater(met, 20)

    def test_what_is_not_raised_is_not_when_doubled(self):
        rng = naive.source(165)
        met = set()
        for n, d in ((1, 7), (1, 8), (2, 5), (2, 7), (3, 4), (3, 7), (4, 2), (5, 0)):
            for _ in range(10):
                some = naive.any_sum_of_degree(rng, n, 4, d)
                if judged(n, some)[0] == "not":
                    self.assertEqual(judged(n, doubled(some))[0], "not")
                met.add(judged(n, doubled(some))[0])
        self.assertEqual(met, {"raised", "not"})


if __name__ == "__main__":
    unittest.main()
