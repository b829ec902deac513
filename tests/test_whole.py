"""What is promised over the whole program: the interface, and that nothing is changed, kept or told both ways."""

import copy
import importlib
import inspect
import unittest

import naive
from naive import BIG
from raisedsums import errors
from raisedsums.counting import counts_done
from raisedsums.desk import Desk
from raisedsums.errors import NoPaper
from raisedsums.exchanges import exchanged
from raisedsums.holding import held, least, ones
from raisedsums.judging import is_even, is_sure, judged, rows_counted, standing
from raisedsums.kinds import counts_of, rows_by
from raisedsums.looker import look
from raisedsums.raising import raised
from raisedsums.rows import behind, done
from raisedsums.settling import settled, walked, way
from raisedsums.shifting import shifted
from raisedsums.sums import added, multiplied
from raisedsums.tables import times
from raisedsums.texts import read_counts, read_rows, read_sum, show_counts, show_rows, show_sum
from raisedsums.turning import counts_turned, turned

# Of each function how many arguments it takes.
INTERFACE = {
    "sums": {"is_sum": 2, "sum_of": 2, "added": 2, "multiplied": 2, "degrees": 1, "of_degree": 2},
    "putting": {"put_in": 3},
    "raising": {"odd_ways": 2, "raised": 2, "raised_whole": 1},
    "rows": {"is_row": 1, "are_rows": 1, "rows_of": 1, "rows_added": 2, "done": 2, "behind": 2},
    "exchanges": {"pair": 2, "exchanged": 3},
    "settling": {"is_steep": 1, "moment": 1, "settled": 1, "way": 1, "walked": 2, "steep_rows": 1},
    "holding": {"ones": 1, "held": 2, "least": 2},
    "counting": {"are_counts": 1, "counts_done": 2, "need": 1},
    "tables": {"times": 2},
    "kinds": {"counts_of": 1, "rows_by": 1},
    "turning": {"part_turned": 1, "turned": 1, "counts_turned": 1},
    "shifting": {"shifted": 3},
    "lowering": {"meets_oddly": 2, "lowered": 2},
    "judging": {"products_counted": 2, "judged": 2, "is_even": 2, "rows_counted": 2, "standing": 2, "is_sure": 2},
    "halving": {"halved": 1, "doubled": 1},
    "looker": {"look": 1},
    "texts": {"show_sum": 1, "show_rows": 1, "show_counts": 1, "read_sum": 2, "read_rows": 1, "read_counts": 1},
    "desk": {"Desk": 1},
}

SOME = ((1, 2), (2, 1), (3, 0))
ROWS = ((1, 2), (2, 2, 2), (4,))
COUNTS = ((0, 1), (3,))
# Calls that tell something, of each function at least one; lists are handed in wherever any thing may be.
TELLING = [
    ("sums", "is_sum", 2, [(1, 2)]), ("sums", "sum_of", 2, [(1, 2), (1, 2), (3, 0)]), ("sums", "added", SOME, ((1, 2),)),
    ("sums", "multiplied", SOME, SOME), ("sums", "degrees", SOME), ("sums", "of_degree", SOME, 3),
    ("putting", "put_in", 3, SOME, ((0, 1), (2,))), ("raising", "odd_ways", 5, 4), ("raising", "raised", SOME, 2),
    ("raising", "raised_whole", SOME), ("rows", "is_row", [1, 2]), ("rows", "are_rows", [[1]]),
    ("rows", "rows_of", [(2,), (1,), (2,)]), ("rows", "rows_added", ROWS, ((4,),)), ("rows", "done", ROWS, SOME),
    ("rows", "behind", ROWS, ((1,), (2,))), ("exchanges", "pair", 2, 3), ("exchanges", "exchanged", ROWS, (1, 2), 0),
    ("settling", "is_steep", (2, 1)), ("settling", "moment", (2, 1)), ("settling", "settled", ROWS),
    ("settling", "way", ROWS), ("settling", "walked", ROWS, [((1, 2), 0)]), ("settling", "steep_rows", 9),
    ("holding", "ones", 3), ("holding", "held", ROWS, ((4,),)), ("holding", "held", ((1, 2),), ((3,),)),
    ("holding", "least", ROWS, ((4,),)), ("counting", "are_counts", [[1]]), ("counting", "counts_done", COUNTS, SOME),
    ("counting", "need", COUNTS), ("tables", "times", COUNTS, COUNTS), ("kinds", "counts_of", ROWS),
    ("kinds", "rows_by", COUNTS), ("turning", "part_turned", 7), ("turning", "turned", ROWS),
    ("turning", "counts_turned", COUNTS), ("shifting", "shifted", 3, SOME, ((1, 1),)),
    ("lowering", "meets_oddly", SOME, ((1, 2),)), ("lowering", "lowered", SOME, 1),
    ("judging", "products_counted", 4, BIG), ("judging", "judged", 2, SOME), ("judging", "judged", 2, SOME[:2]),
    ("judging", "is_even", 2, SOME), ("judging", "rows_counted", 3, 8), ("judging", "standing", 3, 8),
    ("judging", "is_sure", 3, BIG), ("halving", "halved", ((1, 3), (2, 2))), ("halving", "doubled", SOME),
    ("looker", "look", ("same", ((1, 2),), ((3,),))), ("texts", "show_sum", SOME), ("texts", "show_rows", ROWS),
    ("texts", "show_counts", COUNTS), ("texts", "read_sum", 2, "b + a"), ("texts", "read_rows", "2.1 + 3"),
    ("texts", "read_counts", "0,1 + 3"),
]
# Calls that are refused, and the one class that is due.
REFUSING = [
    ("NoProduct", "sums", "sum_of", 2, [(1, 2), [1, 2]]), ("NoPart", "raising", "raised", SOME, [1]),
    ("NoRow", "rows", "rows_of", [(1,), [1]]), ("TooMany", "rows", "behind", ((9,),), ((8,),)),
    ("NoExchange", "exchanges", "pair", [2], 3), ("NoRow", "exchanges", "exchanged", ROWS, [1, 2], 0),
    ("NoExchange", "exchanges", "exchanged", ROWS, (1, 2), [0]), ("NoRow", "settling", "walked", ROWS, [([1, 2], 0)]),
    ("NoExchange", "settling", "walked", ROWS, [((1, 2), [0])]), ("NoPart", "settling", "steep_rows", [1]),
    ("TooMany", "holding", "held", ((9,),), ()), ("TooMany", "holding", "least", ((9,),), ()),
    ("TooMany", "tables", "times", ((9,),), ((8,),)), ("NoPart", "turning", "part_turned", [1]),
    ("NoPart", "shifting", "shifted", [1], SOME, SOME), ("NoPart", "lowering", "lowered", SOME, [1]),
    ("Unlike", "judging", "judged", 1, ((1,), (30,))), ("TooMany", "judging", "judged", 1, ((30,),)),
    ("Unlike", "judging", "is_even", 1, ((1,), (30,))), ("TooMany", "judging", "is_even", 1, ((30,),)),
    ("NoPart", "judging", "rows_counted", 3, [1]), ("TooMany", "judging", "rows_counted", 3, BIG),
    ("NoPart", "judging", "standing", 3, [1]), ("TooMany", "judging", "standing", 3, BIG),
    ("NoPart", "judging", "is_sure", 3, [1]), ("NoPaper", "looker", "look", ["same", [[1]], []]),
    ("NoText", "texts", "read_sum", 2, ["a"]), ("NoText", "texts", "read_rows", "a"),
    ("NoText", "texts", "read_counts", ["1"]), ("NoLetters", "desk", "Desk", [3]),
]


def function(module, name):
    return getattr(importlib.import_module(f"raisedsums.{module}"), name)


def refusals():
    return [getattr(errors, name) for name in dir(errors) if inspect.isclass(getattr(errors, name))
            and name != "RaisedError"]


class Interface(unittest.TestCase):
    def test_names_and_arguments(self):
        for module, names in INTERFACE.items():
            for name, most in names.items():
                self.assertEqual(len(inspect.signature(function(module, name)).parameters), most, name)
        self.assertEqual(list(inspect.signature(Desk.say).parameters), ["self", "text"])

    def test_all_are_asked_here(self):
        named = {(module, name) for module, names in INTERFACE.items() for name in names}
        self.assertEqual({call[:2] for call in TELLING} | {("desk", "Desk")}, named)


class NothingIsChangedOrKept(unittest.TestCase):
    def call(self, module, name, *given):
        before = copy.deepcopy(given)
        told = function(module, name)(*given)
        self.assertEqual(given, before, name)
        return told

    def refused(self, due, module, name, *given):
        before = copy.deepcopy(given)
        with self.assertRaises(errors.RaisedError, msg=(module, name)) as caught:
            function(module, name)(*given)
        self.assertEqual(given, before, name)
        error = caught.exception
        self.assertIsInstance(error, ValueError)
        self.assertEqual([each.__name__ for each in refusals() if isinstance(error, each)], [due], (module, name))
        return error

    def test_asked_again_in_another_order(self):
        first = [self.call(*call) for call in TELLING]
        for call in REFUSING:
            self.refused(*call)
        again = [self.call(*call) for call in reversed(TELLING)][::-1]
        self.assertEqual(first, again)
        self.assertEqual([type(told) for told in first], [type(told) for told in again])

    def test_a_told_list_is_the_askers_own(self):
        met = 0
        for call in TELLING:
            told = self.call(*call)
            if isinstance(told, list):
                before = copy.deepcopy(told)
                told.append(None)
                told.reverse()
                self.assertEqual(self.call(*call), before)
                self.assertIsNot(self.call(*call), self.call(*call))
                met += 1
        self.assertEqual(met, 5)

    def test_what_is_told_has_no_list_within_it(self):
        def tuples_alone(thing):
            return not isinstance(thing, list) and (not isinstance(thing, tuple) or all(map(tuples_alone, thing)))

        for call in TELLING:
            told = self.call(*call)
            self.assertTrue(all(map(tuples_alone, told)) if isinstance(told, list) else tuples_alone(told), call)

    def test_each_refusal_is_of_the_class_that_is_due(self):
        for call in REFUSING:
            first, again = self.refused(*call), self.refused(*call)
            self.assertEqual(getattr(first, "at", None), getattr(again, "at", None))

    def test_a_list_changed_behind_the_call(self):
        things = [(1, 2), (3, 0)]
        told = function("sums", "sum_of")(2, things)
        things[0] = (9, 9)
        things.clear()
        self.assertEqual(told, ((1, 2), (3, 0)))
        steps = way(ROWS)
        told = walked(ROWS, steps)
        steps.clear()
        self.assertEqual(told, settled(ROWS))


class ThePromise(unittest.TestCase):
    def lets_by(self, paper):
        try:
            look(paper)
        except NoPaper:
            return False
        return True

    def test_of_rows(self):
        rng = naive.source(200)
        kinds = set()
        for _ in range(60):
            one, other = (naive.any_rows(rng, rng.randint(0, 4), range(7)) for _ in range(2))
            if rng.random() < 0.5:
                other = settled(one)[:6]
            paper = held(one, other)
            self.assertTrue(self.lets_by(paper))
            same = settled(one) == settled(other)
            self.assertIs(paper[0] == "same", same)
            self.assertIs(self.lets_by(("same", one, other)), same)
            self.assertIs(least(one, other) is None, same)
            for m in range(9):
                unlike = done(one, ones(m)) != done(other, ones(m))
                self.assertIs(self.lets_by(("apart", one, other, m)), unlike)
                self.assertFalse(same and unlike)
            some = naive.any_sum(rng, 3, 10, 12)
            if same:
                self.assertEqual(done(one, some), done(other, some))
            kinds.add(paper[0])
        self.assertEqual(kinds, {"same", "apart"})

    def test_whichever_neighbours_are_exchanged(self):
        rng = naive.source(201)
        for _ in range(40):
            rows = start = naive.any_rows(rng, 4, range(12))
            while True:
                can = [(row, place) for row in rows for place in naive.slow_places(row)]
                if not can:
                    break
                rows = exchanged(rows, *rng.choice(can))
            self.assertEqual(rows, settled(start))

    def test_of_counts_and_turning(self):
        rng = naive.source(202)
        for _ in range(30):
            one, other = (naive.any_rows(rng, 3, range(7)) for _ in range(2))
            some = naive.any_sum(rng, 2, 6, 9)
            self.assertEqual(counts_done(counts_of(one), some), done(one, some))
            self.assertEqual(rows_by(counts_of(one)), settled(one))
            both = behind(settled(one), settled(other))
            self.assertEqual(times(counts_of(one), counts_of(other)), counts_of(both))
            self.assertEqual(turned(both), settled(behind(turned(other), turned(one))))
            self.assertEqual(turned(turned(one)), settled(one))
            self.assertEqual(counts_turned(counts_of(one)), counts_of(turned(one)))

    def test_a_part_is_shifted(self):
        rng = naive.source(203)
        for k in range(9):
            f, g = naive.any_sum(rng, 2, 4, 8), naive.any_sum(rng, 2, 4, 8)
            back = ()
            for i, some in shifted(k, f, g):
                back = added(back, raised(some, i))
            self.assertEqual(back, multiplied(f, raised(g, k)))

    def test_raised_or_not(self):
        rng = naive.source(204)
        kinds = set()
        for n in range(1, 11):
            for d in range(naive.greatest_degree(n) + 1):
                for few in (1, 3, 8):
                    some = naive.any_sum_of_degree(rng, n, few, d)
                    paper = judged(n, some)
                    self.assertTrue(self.lets_by(paper))
                    if is_sure(n, d):
                        self.assertEqual(paper[0], "raised")
                        self.assertEqual(rows_counted(n, d), 0)
                    if paper[0] == "not":
                        self.assertIs(is_even(n, paper[3]), True)
                    else:
                        # No row that all raised sums meet evenly meets it oddly.
                        rows = [judged(n, (product,))[3] for product in standing(n, d)[:10]]
                        self.assertFalse(any(self.lets_by(("not", n, some, row)) for row in rows))
                    kinds.add(paper[0])
        self.assertEqual(kinds, {"raised", "not"})

    def test_what_is_written_is_read_again(self):
        rng = naive.source(205)
        for _ in range(100):
            n = rng.randint(1, 10)
            some = naive.any_sum(rng, n, 6, 24)
            rows, counts = naive.any_rows(rng, 12, range(17)), naive.any_counts(rng, 12, range(17))
            self.assertEqual(read_sum(n, show_sum(some)), some)
            self.assertEqual(read_rows(show_rows(rows)), rows)
            self.assertEqual(read_counts(show_counts(counts)), counts)


if __name__ == "__main__":
    unittest.main()
