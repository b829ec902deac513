import unittest

import naive
from naive import BIG
from raisedsums.errors import NoRow, TooMany
from raisedsums.rows import are_rows, behind, done, is_row, rows_added, rows_of
from raisedsums.sums import is_sum

ROWS = [(), (1,), (16,), (1, 1), (8, 8), (1,) * 6, (11, 1, 1, 1, 1, 1), (1, 1, 1, 1, 1, 11), (6, 5, 4, 1), (2, 4, 1)]
NO_ROWS = naive.STRANGE + [
    0, 1, 16, BIG, (0,), (1, 0), (0, 1), (17,), (16, 1), (1, 16), (8, 9), (BIG,), (1, BIG), (1,) * 7,
    (11, 1, 1, 1, 1, 2), (1, 1, 1, 1, 1, 12), (2, 2, 2, 2, 2, 2, 2), [1, 2], (1, [2]), (1, (2,)), ((1, 2),), ((),),
]


class IsRow(unittest.TestCase):
    def test_rows(self):
        for row in ROWS:
            self.assertIs(is_row(row), True, row)
        for r in range(17):
            for row in naive.rows_raising(r, 4):
                self.assertIs(is_row(row), True, row)

    def test_no_rows(self):
        for thing in NO_ROWS:
            self.assertIs(is_row(thing), False, thing)
        for row in naive.rows_raising(17, 4):
            self.assertIs(is_row(row), False, row)


class AreRows(unittest.TestCase):
    def yes(self, thing):
        self.assertIs(are_rows(thing), True, thing)

    def no(self, thing):
        self.assertIs(are_rows(thing), False, thing)

    def test_sums_of_rows(self):
        self.yes(())
        self.yes(((),))
        self.yes(((), (1,), (1, 1), (2,)))
        self.yes(tuple(sorted(ROWS)))
        for row in ROWS:
            self.yes((row,))

    def test_more_than_twelve(self):
        self.yes(tuple(sorted(naive.rows_raising(7))))
        self.yes(tuple((k,) for k in range(1, 14)))
        self.yes(tuple(sorted(naive.rows_raising(16, 4)))[:266])

    def test_unsorted_or_twice(self):
        self.no(((1,), ()))
        self.no(((2,), (1, 1)))
        self.no(((1,), (1,)))
        self.no(((), ()))
        self.no(((1,), (2,), (2,)))
        rows = sorted(ROWS)
        for place in range(len(rows) - 1):
            other = list(rows)
            other[place], other[place + 1] = other[place + 1], other[place]
            self.no(tuple(other))

    def test_other_things(self):
        for thing in NO_ROWS:
            if thing != ((),):
                self.no((thing,))
            self.no(((), thing))
        for thing in (None, True, 0, 1, "", "a", [], [()], [(1,)], ([1],), (1,), (1, 2), ((1,), [2]), ((True,),)):
            self.no(thing)
        self.no((((),),))


class RowsOf(unittest.TestCase):
    def test_once_twice_three_times(self):
        self.assertEqual(rows_of([]), ())
        self.assertEqual(rows_of([()]), ((),))
        self.assertEqual(rows_of([(), ()]), ())
        self.assertEqual(rows_of([(2, 1), (1,), (2, 1), (), (2, 1)]), ((), (1,), (2, 1)))
        self.assertEqual(rows_of([(2,), (1, 1), (1,)]), ((1,), (1, 1), (2,)))

    def test_the_first_that_is_none(self):
        for thing in NO_ROWS:
            for things, at in (([thing], 0), ([(1,), thing, ()], 1), ([(), (), (1,), thing, thing, None], 3)):
                with self.assertRaises(NoRow) as told:
                    rows_of(things)
                self.assertEqual(told.exception.at, at, things)
        with self.assertRaises(NoRow) as told:
            rows_of([(1,), (True,), (0,)])
        self.assertEqual(told.exception.at, 1)

    def test_the_list_stays(self):
        things = [(2, 1), (1,), (2, 1), (3,)]
        told = rows_of(things)
        self.assertEqual(things, [(2, 1), (1,), (2, 1), (3,)])
        things.clear()
        self.assertEqual(told, ((1,), (3,)))


class RowsAdded(unittest.TestCase):
    def test_added(self):
        one, other = ((), (1,), (2, 1)), ((1,), (1, 1))
        self.assertEqual(rows_added(one, other), ((), (1, 1), (2, 1)))
        self.assertEqual(rows_added(other, one), ((), (1, 1), (2, 1)))
        self.assertEqual(rows_added(one, one), ())
        self.assertEqual(rows_added(one, ()), one)
        self.assertEqual(rows_added((), one), one)
        self.assertEqual(rows_added((), ()), ())

    def test_against_counting(self):
        rng = naive.source(30)
        for _ in range(50):
            one = naive.any_rows(rng, 12, [3, 4, 16])
            other = naive.any_rows(rng, 12, [3, 4, 16])
            self.assertEqual(rows_added(one, other), naive.odd(one + other))
            self.assertIs(are_rows(rows_added(one, other)), True)


class Done(unittest.TestCase):
    def test_the_last_part_first(self):
        # a raised by 1 is a a, which raised by 2 is four times a; a raised by 2 is nothing.
        self.assertEqual(done(((2, 1),), ((1,),)), ((4,),))
        self.assertEqual(done(((1, 2),), ((1,),)), ())
        self.assertEqual(done(((4, 2, 1),), ((1,),)), ((8,),))
        self.assertEqual(done(((1, 2),), ((1, 1),)), ())
        self.assertEqual(done(((2, 1),), ((1, 1),)), ((1, 4), (4, 1)))

    def test_the_empty_row_and_no_rows(self):
        for some in ((), ((0,),), ((1, 2), (3, 4)), ((1,) * 10,)):
            self.assertEqual(done(((),), some), some)
            self.assertEqual(done((), some), ())
            self.assertEqual(done(((), (16,)), some), some)
        self.assertEqual(done(((1,), (2, 1)), ()), ())

    def test_what_comes_twice_is_gone(self):
        # By 1 and then by 2, or by 3 at once: the same of every sum.
        self.assertEqual(done(((1, 2), (3,)), ((1, 1, 1),)), ())
        self.assertEqual(done(((), (1,)), ((1,), (2,))), ((1,),))

    def test_few_letters_up_to_the_bounds(self):
        rng = naive.source(31)
        for n in (1, 2, 3):
            for _ in range(3):
                some = naive.any_sum_of_degree(rng, n, 6, rng.randint(4, 10))
                rows = naive.any_rows(rng, 5, [0, 3, 9, 16])
                self.assertEqual(done(rows, some), naive.done(rows, some), (rows, some))
            some = naive.any_sum_of_degree(rng, n, 40, 24)
            rows = naive.any_rows(rng, 12, [16])
            told = ()
            for row in rows:
                told = naive.odd(told + done((row,), some))
            self.assertEqual(done(rows, some), told)
            self.assertIs(is_sum(n, told), True)
            rows = ((4, 2), (8, 4, 4), (9, 3, 2, 1, 1))
            self.assertEqual(done(rows, some[:3]), naive.done(rows, some[:3]))

    def test_many_letters_up_to_the_bounds(self):
        rng = naive.source(32)
        for n in (4, 7, 10):
            some = naive.any_sum(rng, n, 4, 5)
            rows = naive.any_rows(rng, 5, [0, 2, 5, 8])
            self.assertEqual(done(rows, some), naive.done(rows, some), (rows, some))
        some = naive.any_sum_of_degree(rng, 10, 8, 10)
        rows = naive.any_rows(rng, 12, [8])
        told = ()
        for row in rows:
            told = naive.odd(told + done((row,), some))
        self.assertEqual(done(rows, some), told)
        self.assertEqual(done(((5, 2, 1), (8,)), naive.ones(10, 4)), naive.done(((5, 2, 1), (8,)), naive.ones(10, 4)))

    def test_unlike_degrees(self):
        some = ((0, 0), (0, 3), (1, 1), (2, 5), (6, 1))
        for rows in (((1,),), ((2, 1), (3,)), ((), (1, 2, 3), (5,))):
            self.assertEqual(done(rows, some), naive.done(rows, some))


class Behind(unittest.TestCase):
    def test_ordinary(self):
        self.assertEqual(behind(((2,),), ((1,),)), ((2, 1),))
        self.assertEqual(behind(((), (3, 1)), ((1,), (2,))), ((1,), (2,), (3, 1, 1), (3, 1, 2)))
        self.assertEqual(behind(((2, 1),), ((),)), ((2, 1),))
        self.assertEqual(behind(((),), ((2, 1),)), ((2, 1),))
        self.assertEqual(behind((), ((1,),)), ())
        self.assertEqual(behind(((1,),), ()), ())
        self.assertEqual(behind((), ()), ())

    def test_rows_that_come_twice_are_gone(self):
        self.assertEqual(behind(((1,), (1, 1)), ((1,), (1, 1))), ((1, 1), (1, 1, 1, 1)))
        self.assertEqual(behind(((), (1,)), ((), (1,))), ((), (1, 1)))

    def test_up_to_the_bounds(self):
        self.assertEqual(behind(((1, 1, 1),), ((1, 1, 1),)), ((1,) * 6,))
        self.assertEqual(behind(((8,),), ((8,),)), ((8, 8),))
        self.assertEqual(behind(((10, 1, 1),), ((1, 1, 2),)), ((10, 1, 1, 1, 1, 2),))
        self.assertEqual(behind(((16,),), ((),)), ((16,),))
        self.assertEqual(behind(((),), ((1,) * 6,)), ((1,) * 6,))

    def refused(self, one, other):
        with self.assertRaises(TooMany):
            behind(one, other)

    def test_too_many(self):
        self.refused(((1, 1, 1, 1),), ((1, 1, 1),))
        self.refused(((1,),), ((1,) * 6,))
        self.refused(((8,),), ((9,),))
        self.refused(((16,),), ((1,),))
        self.refused(((), (1,)), ((1,), (16,)))
        self.refused(((1,), (2, 1, 1)), ((1,), (2, 1, 1, 1)))

    def test_too_many_where_it_would_come_twice(self):
        # (1) and then six ones, (1, 1) and then five: the same row of seven parts, twice.
        self.refused(((1,), (1, 1)), ((1,) * 5, (1,) * 6))
        # (9) behind (4, 4) and (9, 4) behind (4): the same row of seventeen, twice.
        self.refused(((9,), (9, 4)), ((4,), (4, 4)))

    def test_against_row_by_row(self):
        rng = naive.source(33)
        for _ in range(200):
            one = naive.any_rows(rng, 3, [0, 3, 8, 9])
            other = naive.any_rows(rng, 3, [0, 3, 8])
            made = [p + q for p in one for q in other]
            if all(len(row) <= 6 and sum(row) <= 16 for row in made):
                self.assertEqual(behind(one, other), naive.odd(made))
            else:
                self.refused(one, other)

    def test_twelve_rows_each(self):
        one = tuple(sorted(naive.rows_raising(8, 3))[:12])
        other = tuple(sorted(naive.rows_raising(8, 3))[-12:])
        told = behind(one, other)
        self.assertEqual(told, naive.odd([p + q for p in one for q in other]))
        self.assertIs(are_rows(told), True)

    def test_it_does_the_other_one_and_then_the_one(self):
        rng = naive.source(34)
        for n in (1, 2, 3, 4, 10):
            for _ in range(4):
                raises = [0, 1, 2, 3, 4] if n > 3 else [0, 2, 5, 8]
                one = tuple(row for row in naive.any_rows(rng, 4, raises) if len(row) <= 3)
                other = tuple(row for row in naive.any_rows(rng, 4, raises) if len(row) <= 3)
                some = naive.any_sum(rng, n, 5, 6)
                self.assertEqual(done(behind(one, other), some), done(one, done(other, some)))


if __name__ == "__main__":
    unittest.main()
