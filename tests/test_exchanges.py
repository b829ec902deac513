import unittest

import naive
from naive import BIG
from raisedsums.errors import NoExchange, NoRow
from raisedsums.exchanges import exchanged, pair
from raisedsums.raising import raised
from raisedsums.rows import are_rows, done


class Pair(unittest.TestCase):
    def test_ordinary(self):
        self.assertEqual(pair(1, 1), ())
        self.assertEqual(pair(1, 2), ((3,),))
        self.assertEqual(pair(2, 2), ((3, 1),))
        self.assertEqual(pair(3, 2), ())
        self.assertEqual(pair(2, 3), ((4, 1), (5,)))
        self.assertEqual(pair(1, 3), ())
        self.assertEqual(pair(2, 4), ((5, 1), (6,)))
        self.assertEqual(pair(3, 3), ((5, 1),))
        self.assertEqual(pair(4, 4), ((6, 2), (7, 1)))

    def test_all_from_one_to_forty(self):
        for a in range(1, 41):
            for b in range(1, 41):
                if a < 2 * b:
                    self.assertEqual(pair(a, b), naive.pair(a, b), (a, b))
                else:
                    with self.assertRaises(NoExchange):
                        pair(a, b)
        self.assertTrue(any(sum(row) == 80 for row in pair(40, 40)))

    def test_any_other_things(self):
        for thing in naive.STRANGE + [0, 41, 42, BIG, (1,), (3, 1)]:
            for a, b in ((thing, 1), (1, thing), (thing, 40), (40, thing), (thing, thing)):
                with self.assertRaises(NoExchange, msg=(a, b)):
                    pair(a, b)
        for a, b in ((2, 1), (80, 40), (41, 40), (40, 41), (40, 20), (True, 5), (5, True), (-1, 5), (0, 1), (1, 0)):
            with self.assertRaises(NoExchange, msg=(a, b)):
                pair(a, b)

    def test_it_does_the_same(self):
        rng = naive.source(40)
        for n in (1, 2, 3):
            some = naive.any_sum_of_degree(rng, n, 20, 24)
            for a in range(1, 9):
                for b in range(1, 9):
                    if a < 2 * b:
                        told = ()
                        for row in pair(a, b):
                            made = raised(some, row[1]) if len(row) == 2 else some
                            told = naive.odd(told + raised(made, row[0]))
                        self.assertEqual(raised(raised(some, b), a), told)
        some = naive.ones(10, 8)
        for a in range(1, 8):
            for b in range(1, 9 - a):
                if a < 2 * b:
                    self.assertEqual(done(((a, b),), some), done(pair(a, b), some), (a, b))

    def test_great_parts(self):
        some = ((17, 30, 31), (21, 9, 15), (40, 40, 40))
        for a, b in ((40, 40), (39, 20), (1, 40), (33, 17), (40, 33)):
            told = ()
            for row in pair(a, b):
                made = raised(some, row[1]) if len(row) == 2 else some
                told = naive.odd(told + raised(made, row[0]))
            self.assertEqual(raised(raised(some, b), a), told)


class Exchanged(unittest.TestCase):
    def test_ordinary(self):
        self.assertEqual(exchanged(((1, 2),), (1, 2), 0), ((3,),))
        self.assertEqual(exchanged(((2, 2),), (2, 2), 0), ((3, 1),))
        self.assertEqual(exchanged(((1, 1),), (1, 1), 0), ())
        self.assertEqual(exchanged(((), (1, 1), (5,)), (1, 1), 0), ((), (5,)))
        self.assertEqual(exchanged(((4, 2, 3, 1),), (4, 2, 3, 1), 1), ((4, 4, 1, 1), (4, 5, 1)))
        self.assertEqual(exchanged(((4, 1, 2, 3),), (4, 1, 2, 3), 2), ((4, 1, 4, 1), (4, 1, 5)))

    def test_rows_that_stand_already_are_gone(self):
        self.assertEqual(exchanged(((1, 2), (3,)), (1, 2), 0), ())
        self.assertEqual(exchanged(((2, 3), (4, 1)), (2, 3), 0), ((5,),))
        self.assertEqual(exchanged(((2, 3), (4, 1), (5,)), (2, 3), 0), ())

    def test_every_row_and_place(self):
        for r in (3, 6, 8):
            rows = tuple(sorted(naive.rows_raising(r)))
            for row in rows:
                for place in range(-2, 8):
                    if place in naive.slow_places(row):
                        told = exchanged(rows, row, place)
                        self.assertEqual(told, naive.exchanged(rows, row, place))
                        self.assertIs(are_rows(told), True)
                    else:
                        with self.assertRaises(NoExchange):
                            exchanged(rows, row, place)

    def test_up_to_the_bounds(self):
        rng = naive.source(41)
        for _ in range(60):
            rows = naive.any_rows(rng, 12, [16])
            for row in rows:
                for place in naive.slow_places(row):
                    told = exchanged(rows, row, place)
                    self.assertEqual(told, naive.exchanged(rows, row, place))
                    self.assertIs(are_rows(told), True)

    def test_no_row_of_the_sum(self):
        rows = ((), (1, 1), (1, 2, 3), (2, 2))
        others = naive.STRANGE + [0, 1, (1, 3), (2,), (1, 2), (2, 3), [1, 1], (True, 1), (1, True), (True, True),
                                  ((1, 1),), (1, 1, 0), BIG, (BIG,), "(1, 1)", rows]
        for thing in others:
            for place in (0, 1, -1, None, True, "0", [], BIG):
                with self.assertRaises(NoRow, msg=(thing, place)) as told:
                    exchanged(rows, thing, place)
                self.assertEqual(told.exception.at, 0)
        for thing in ((), (1,), (1, 1), None):
            with self.assertRaises(NoRow) as told:
                exchanged((), thing, 0)
            self.assertEqual(told.exception.at, 0)

    def test_no_such_place(self):
        rows = ((), (1,), (1, 2, 3), (4, 2, 2), (8, 4, 2, 1))
        wrong = [None, True, False, "", "0", [], [0], (), (0,), -1, -2, -3, -BIG, 9, BIG]
        for row in rows:
            for place in wrong + [2, 3]:
                with self.assertRaises(NoExchange, msg=(row, place)):
                    exchanged(rows, row, place)
        for row, place in (((), 0), ((1,), 0), ((4, 2, 2), 0), ((8, 4, 2, 1), 0), ((8, 4, 2, 1), 1)):
            with self.assertRaises(NoExchange):
                exchanged(rows, row, place)
        self.assertEqual(exchanged(((4, 2, 2),), (4, 2, 2), 1), ((4, 3, 1),))

    def test_it_does_the_same(self):
        rng = naive.source(42)
        for n in (2, 3, 10):
            for _ in range(10):
                rows = naive.any_rows(rng, 4, [4, 7] if n == 10 else [6, 9])
                some = naive.any_sum(rng, n, 4, 8)
                for row in rows:
                    for place in naive.slow_places(row):
                        self.assertEqual(done(exchanged(rows, row, place), some), done(rows, some))

    def test_asked_again_the_same(self):
        rows = ((1, 2, 3), (2, 2))
        first = exchanged(rows, (1, 2, 3), 0)
        with self.assertRaises(NoRow):
            exchanged(rows, (9,), 0)
        exchanged(rows, (2, 2), 0)
        self.assertEqual(exchanged(rows, (1, 2, 3), 0), first)
        self.assertEqual(rows, ((1, 2, 3), (2, 2)))
        wrong = [1, [2]]
        with self.assertRaises(NoRow):
            exchanged(rows, wrong, wrong)
        self.assertEqual(wrong, [1, [2]])


if __name__ == "__main__":
    unittest.main()
