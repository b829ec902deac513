import copy
import unittest

import naive
from naive import BIG
from raisedsums.errors import NoExchange, NoPart, NoRow
from raisedsums.rows import are_rows, behind, done
from raisedsums.settling import is_steep, moment, settled, steep_rows, walked, way


def by_any_exchanges(rng, rows, choose):
    """Settles with exchanges of its own choice, each done as the document tells it."""
    while True:
        can = [row for row in rows if naive.slow_places(row)]
        if not can:
            return rows
        row = choose(can)
        rows = naive.exchanged(rows, row, rng.choice(naive.slow_places(row)))


class Steep(unittest.TestCase):
    def test_is_steep(self):
        for row in ((), (1,), (16,), (2, 1), (10, 5, 1), (8, 4, 2, 1), (12, 4)):
            self.assertIs(is_steep(row), True, row)
        for row in ((1, 1), (1, 2), (3, 2), (8, 4, 3), (4, 4), (8, 4, 2, 2), (1, 1, 1, 1, 1, 1), (1, 8, 4)):
            self.assertIs(is_steep(row), False, row)
        for r in range(10):
            for row in naive.rows_raising(r):
                self.assertIs(is_steep(row), all(a >= 2 * b for a, b in zip(row, row[1:])))

    def test_moment(self):
        self.assertEqual(moment(()), 0)
        self.assertEqual(moment((7,)), 7)
        self.assertEqual(moment((7, 2)), 11)
        self.assertEqual(moment((1, 1, 1, 1, 1, 11)), 81)
        self.assertEqual(moment((5, 4, 3)), 22)

    def test_the_moment_falls(self):
        for r in (5, 9, 12):
            for row in naive.rows_raising(r):
                for place in naive.slow_places(row):
                    for made in naive.exchanged((row,), row, place):
                        self.assertLess(moment(made), moment(row))


class Settled(unittest.TestCase):
    def test_ordinary(self):
        self.assertEqual(settled(()), ())
        self.assertEqual(settled(((),)), ((),))
        self.assertEqual(settled(((5,),)), ((5,),))
        self.assertEqual(settled(((1, 2),)), ((3,),))
        self.assertEqual(settled(((1, 2), (3,))), ())
        self.assertEqual(settled(((1, 1, 5),)), ())
        self.assertEqual(settled(((2, 2, 2),)), ((5, 1),))
        self.assertEqual(settled(((1, 2, 1),)), ((3, 1),))
        self.assertEqual(settled(((2, 1, 2),)), ((4, 1), (5,)))
        self.assertEqual(settled(((), (1,), (1, 1), (2, 1))), ((), (1,), (2, 1)))

    def test_steep_ones_stay(self):
        for r in range(17):
            rows = tuple(steep_rows(r))
            self.assertEqual(settled(rows), rows)
            self.assertEqual(way(rows), [])

    def test_the_same_whichever_exchanges_are_done(self):
        rng = naive.source(50)
        for raises in ([3, 4, 5], [8], [11, 13], [16], [16], [16]):
            for most in (1, 5, 12):
                for _ in range(4):
                    rows = naive.any_rows(rng, most, raises)
                    told = settled(rows)
                    self.assertTrue(all(not naive.slow_places(row) for row in told))
                    self.assertIs(are_rows(told), True)
                    for choose in (rng.choice, min, max, lambda can: max(can, key=moment),
                                   lambda can: min(can, key=moment)):
                        self.assertEqual(by_any_exchanges(rng, rows, choose), told, rows)

    def test_every_row_that_raises_by_ten(self):
        rng = naive.source(51)
        for row in naive.rows_raising(10):
            self.assertEqual(settled((row,)), by_any_exchanges(rng, (row,), max))

    def test_it_does_the_same(self):
        rng = naive.source(52)
        for n, raises in ((1, [5, 9]), (2, [12, 16]), (3, [8, 16]), (3, [16]), (4, [5, 8]), (10, [3, 6])):
            for _ in range(4):
                rows = naive.any_rows(rng, 5, raises)
                some = naive.any_sum(rng, n, 5, 8 if n > 3 else 20)
                self.assertEqual(done(settled(rows), some), done(rows, some), (rows, some))

    def test_unlike_settled_sums_do_unlike_things(self):
        eight = naive.ones(8, 8)
        for r in range(9):
            rows = steep_rows(r)
            made = set()
            for chosen in range(2 ** len(rows)):
                made.add(done(tuple(row for i, row in enumerate(rows) if chosen >> i & 1), eight))
            self.assertEqual(len(made), 2 ** len(rows))

    def test_told_with_more_than_twelve(self):
        rng = naive.source(53)
        rows = behind(tuple(sorted(naive.rows_raising(8, 3))[:12]), tuple(sorted(naive.rows_raising(8, 3))[-12:]))
        self.assertGreater(len(rows), 12)
        self.assertEqual(settled(rows), by_any_exchanges(rng, rows, lambda can: max(can, key=moment)))
        self.assertEqual(walked(rows, way(rows)), settled(rows))

    def test_asked_again_the_same(self):
        rows = ((1, 2, 3, 4), (2, 2, 3, 3), (4, 6))
        first = settled(rows)
        settled(((5, 5),))
        self.assertEqual(settled(rows), first)
        self.assertEqual(settled(first), first)


class Way(unittest.TestCase):
    def test_it_leads_to_the_settled_sum(self):
        rng = naive.source(54)
        for raises in ([0, 1, 2], [7], [16]):
            for most in (1, 6, 12):
                for _ in range(6):
                    rows = naive.any_rows(rng, most, raises)
                    steps = way(rows)
                    self.assertIsInstance(steps, list)
                    here = rows
                    for step in steps:
                        self.assertIsInstance(step, tuple)
                        row, place = step
                        self.assertIn(row, here)
                        self.assertIn(place, naive.slow_places(row))
                        here = naive.exchanged(here, row, place)
                    self.assertEqual(here, settled(rows))
                    self.assertEqual(walked(rows, steps), here)

    def test_none_where_nothing_is_to_do(self):
        self.assertEqual(way(()), [])
        self.assertEqual(way(((), (2, 1), (3,))), [])

    def test_a_told_list_is_new(self):
        rows = ((1, 2, 3), (2, 2))
        first = way(rows)
        before = copy.deepcopy(first)
        first.clear()
        first.append(None)
        second = way(rows)
        self.assertEqual(second, before)
        self.assertIsNot(second, way(rows))


class Walked(unittest.TestCase):
    def test_any_exchanges(self):
        rows = ((1, 2, 3), (2, 2))
        self.assertEqual(walked(rows, []), rows)
        self.assertEqual(walked((), []), ())
        self.assertEqual(walked(rows, [((2, 2), 0)]), ((1, 2, 3), (3, 1)))
        self.assertEqual(walked(rows, [((1, 2, 3), 0)]), ((2, 2), (3, 3)))
        self.assertEqual(walked(rows, [((1, 2, 3), 0), ((3, 3), 0)]), ((2, 2), (5, 1)))
        self.assertEqual(walked(((1, 1, 2),), [((1, 1, 2), 1), ((1, 3), 0)]), ())
        self.assertEqual(walked(((1, 2), (3,)), [((1, 2), 0)]), ())

    def test_a_way_that_is_broken_off(self):
        rng = naive.source(55)
        for _ in range(10):
            rows = naive.any_rows(rng, 12, [16])
            steps = way(rows)
            for upto in range(0, len(steps), 5):
                here = walked(rows, steps[:upto])
                self.assertEqual(settled(here), settled(rows))
                self.assertEqual(walked(here, steps[upto:]), settled(rows))

    def no_row(self, rows, steps):
        with self.assertRaises(NoRow, msg=steps) as told:
            walked(rows, steps)
        self.assertEqual(told.exception.at, 0)

    def no_exchange(self, rows, steps):
        with self.assertRaises(NoExchange, msg=steps):
            walked(rows, steps)

    def test_the_first_that_cannot_be_done(self):
        rows = ((1, 2, 3), (2, 2))
        good = ((1, 2, 3), 0)
        self.no_row(rows, [good, good])
        self.no_row(rows, [good, ((1, 2, 3), 1)])
        self.no_row(rows, [good, ((9,), None), ((2, 2), 5)])
        self.no_exchange(rows, [good, ((2, 2), 5), ((9,), 0)])
        self.no_exchange(rows, [((2, 2), 1), good])
        self.no_exchange(rows, [good, ((3, 3), 1)])
        self.no_row((), [((1, 1), 0)])
        # What has become nothing is no row any more, what has come is one.
        self.no_row(((1, 2), (3,)), [((1, 2), 0), ((3,), 0)])
        self.no_exchange(((1, 2),), [((1, 2), 0), ((3,), 0)])

    def test_any_things(self):
        rows = ((1, 1), (1, 2, 3))
        for thing in naive.STRANGE + [0, BIG, (BIG,), [1, 1], (True, 1), (1, True), (1, [1])]:
            self.no_row(rows, [(thing, 0)])
            self.no_row(rows, [(thing, thing)])
            self.no_exchange(rows, [((1, 1), (thing,))])
            if thing != 0 or thing is False:
                self.no_exchange(rows, [((1, 1), thing)])
        for place in (True, False, None, "0", -1, -2, 1, 2, BIG, [0], (0,)):
            self.no_exchange(rows, [((1, 1), place)])

    def test_the_list_stays(self):
        rows = ((1, 2, 3), (2, 2))
        steps = [((1, 2, 3), 0), ((2, 2), 0)]
        told = walked(rows, steps)
        self.assertEqual(steps, [((1, 2, 3), 0), ((2, 2), 0)])
        steps.clear()
        self.assertEqual(told, ((3, 1), (3, 3)))
        wrong = [((1, 2, 3), 0), ([2, 2], [0])]
        self.no_row(rows, wrong)
        self.assertEqual(wrong, [((1, 2, 3), 0), ([2, 2], [0])])


class SteepRows(unittest.TestCase):
    def test_all_of_them_sorted(self):
        for r in range(17):
            told = steep_rows(r)
            self.assertIsInstance(told, list)
            self.assertEqual(told, sorted(row for row in naive.rows_raising(r) if not naive.slow_places(row)), r)
        self.assertEqual(steep_rows(0), [()])
        self.assertEqual(steep_rows(1), [(1,)])
        self.assertEqual(steep_rows(3), [(2, 1), (3,)])
        self.assertEqual(steep_rows(7), [(4, 2, 1), (5, 2), (6, 1), (7,)])
        self.assertEqual(len(steep_rows(16)), 12)

    def test_what_is_no_part(self):
        for thing in naive.STRANGE + [17, 18, BIG, (), (1,), (16,)]:
            with self.assertRaises(NoPart, msg=thing):
                steep_rows(thing)

    def test_a_told_list_is_new(self):
        for r in (0, 3, 16):
            first = steep_rows(r)
            before = list(first)
            first.append((99,))
            first[0] = None
            self.assertEqual(steep_rows(r), before)
            self.assertIsNot(steep_rows(r), steep_rows(r))


if __name__ == "__main__":
    unittest.main()
