import ast
import copy
import pathlib
import unittest

import naive
from naive import BIG
from raisedsums.errors import NoPaper
from raisedsums.holding import held
from raisedsums.judging import is_sure, judged, standing
from raisedsums.looker import look
from raisedsums.raising import raised
from raisedsums.rows import done
from raisedsums.settling import settled

PACKAGE = pathlib.Path(__file__).resolve().parent.parent / "raisedsums"
GREATEST = [(n, naive.greatest_degree(n)) for n in range(1, 11)]
SAME = ("same", ((1, 2),), ((3,),))
APART = ("apart", ((2, 1),), ((3,),), 1)
RAISED = ("raised", 2, ((1, 2), (2, 1)), ((1, ((1, 1),)),))
NOT = ("not", 2, ((2, 1),), ((1, 2), (2, 1)))
PAPERS = [SAME, APART, RAISED, NOT]
SEVEN_ROWS = ((1,), (1, 1), (2,), (2, 1), (3,), (4,), (5,))
NO_SUMS_OF_ROWS = [None, True, 0, "", "0", [], [(1,)], ((1,), (1,)), ((2,), (1,)), ((0,),), ((-1,),), ((True,),),
                   ((1, True),), ([1],), (1,), ("1",), ((1, None),), ((1,) * 7,), ((17,),), ((BIG,),), (((1,),),),
                   SEVEN_ROWS, ((9,),), ((8, 1),), ((1,), (3, 3, 3))]


def at_of(thing):
    """The number of the asking that fails, None where the paper is let by."""
    try:
        told = look(thing)
    except NoPaper as error:
        return error.at
    assert told is None
    return None


def is_number(thing, least, most):
    return type(thing) is int and least <= thing <= most


def is_list_of_products(n, thing):
    if type(thing) is not tuple or any(type(p) is not tuple or len(p) != n for p in thing):
        return False
    if any(type(e) is not int or e < 0 for p in thing for e in p):
        return False
    return list(thing) == sorted(set(thing))


def is_list_of_rows(thing):
    if type(thing) is not tuple or len(thing) > 6 or any(type(row) is not tuple or len(row) > 6 for row in thing):
        return False
    if any(type(part) is not int or part < 1 for row in thing for part in row):
        return False
    return list(thing) == sorted(set(thing)) and all(sum(row) <= 8 for row in thing)


def may_be_judged(n, thing):
    if not is_list_of_products(n, thing):
        return False
    found = {sum(p) for p in thing}
    return not found or (len(found) == 1 and max(found) <= naive.greatest_degree(n))


def holds_pairs(n, some, pairs):
    if type(pairs) is not tuple or len(pairs) > 200 or (pairs and not some):
        return False
    for two in pairs:
        if type(two) is not tuple or len(two) != 2 or not is_number(two[0], 1, 10 ** 50):
            return False
        if not is_list_of_products(n, two[1]) or any(sum(p) + two[0] != sum(some[0]) for p in two[1]):
            return False
    return True


def asked(thing):
    """The askings of the document, one by one; told as look tells them."""
    if type(thing) is not tuple or not thing or type(thing[0]) is not str:
        return 1
    if (thing[0], len(thing)) not in (("same", 3), ("apart", 4), ("raised", 4), ("not", 4)):
        return 1
    if thing[0] in ("same", "apart"):
        return asked_of_rows(*thing[:3], *thing[3:])
    return asked_of_sums(*thing)


def asked_of_rows(kind, one, other, m=8):
    if not is_list_of_rows(one):
        return 2
    if not is_list_of_rows(other):
        return 3
    if not is_number(m, 0, 8):
        return 4
    same = done(one, naive.ones(8, m)) == done(other, naive.ones(8, m))
    if kind == "same":
        return None if same else 4
    return 5 if same else None


def asked_of_sums(kind, n, some, shown):
    if not is_number(n, 1, 10):
        return 2
    if not may_be_judged(n, some):
        return 3
    if kind == "raised":
        if not holds_pairs(n, some, shown):
            return 4
        return None if naive.odd([p for k, part in shown for p in raised(part, k)]) == some else 5
    if not is_list_of_products(n, shown) or not shown or not some or len({sum(p) for p in some + shown}) != 1:
        return 4
    d = sum(some[0])
    for k in range(1, d + 1):
        for product in naive.products_of(n, d - k) if 2 * k <= d else []:
            if len(set(raised((product,), k)) & set(shown)) % 2:
                return 5
    return None if len(set(some) & set(shown)) % 2 else 6


def changes(rng, thing):
    """The thing with one thing within it changed."""
    if type(thing) is tuple and thing and rng.random() < 0.9:
        at = rng.randrange(len(thing))
        way = rng.randrange(10)
        if way == 0:
            return thing[:at] + thing[at + 1:]
        if way == 1:
            return thing[:at] + (thing[at],) + thing[at:]
        if way == 2:
            return thing[:at] + (list(thing[at]) if type(thing[at]) is tuple else [thing[at]],) + thing[at + 1:]
        return thing[:at] + (changes(rng, thing[at]),) + thing[at + 1:]
    if type(thing) is int and not isinstance(thing, bool):
        return rng.choice([thing + 1, thing - 1, -thing, bool(thing), thing + 2, str(thing), None, 0, (thing,)])
    return rng.choice([None, True, 0, 1, (), [], "same", "apart", "raised", "not", ((),), ((1,),)])


class PapersThatHold(unittest.TestCase):
    def test_ordinary(self):
        for paper in PAPERS:
            self.assertIsNone(look(paper))

    def test_what_held_tells(self):
        rng = naive.source(170)
        kinds = set()
        for _ in range(60):
            one = naive.any_rows(rng, rng.randint(0, 6), range(9))
            for other in (naive.any_rows(rng, rng.randint(0, 6), range(9)), settled(one), one, ()):
                if len(other) <= 6:
                    paper = held(one, other)
                    self.assertIsNone(look(paper), paper)
                    kinds.add(paper[0])
        self.assertEqual(kinds, {"same", "apart"})

    def test_what_judged_tells(self):
        rng = naive.source(171)
        kinds = set()
        for n, top in GREATEST:
            for d in range(top + 1):
                for few in (1, 2, 8):
                    paper = judged(n, naive.any_sum_of_degree(rng, n, few, d))
                    self.assertIsNone(look(paper), paper)
                    kinds.add((n, paper[0]))
                if d > 1:
                    k = rng.randint(1, d // 2)
                    paper = judged(n, raised(naive.any_sum_of_degree(rng, n, 4, d - k), k))
                    self.assertIsNone(look(paper), paper)
                    kinds.add((n, paper[0]))
            self.assertIsNone(look(judged(n, ())))
            self.assertIsNone(look(judged(n, ((0,) * n,))))
            self.assertIsNone(look(judged(n, tuple(naive.products_of(n, top)))))
        self.assertEqual(len(kinds), 2 * 10)

    def test_rows_put_together_otherwise(self):
        self.assertIsNone(look(("same", (), ())))
        self.assertIsNone(look(("same", ((1, 1),), ())))
        self.assertIsNone(look(("same", ((),), ((),))))
        self.assertIsNone(look(("same", ((1, 2), (3,)), ())))
        self.assertIsNone(look(("apart", ((),), (), 0)))
        self.assertIsNone(look(("apart", ((),), (), 8)))
        # Any m of which they make unlike sums, not the least alone.
        for m in range(1, 9):
            self.assertIsNone(look(("apart", ((1,),), (), m)))
        self.assertEqual([at_of(("apart", ((3,),), (), m)) for m in range(9)], [5, 5, 5] + [None] * 6)

    def test_pairs_put_together_otherwise(self):
        some = raised(((2, 3), (3, 2)), 1)
        one_by_one = ((1, ((2, 3),)), (1, ((3, 2),)))
        self.assertIsNone(look(("raised", 2, some, ((1, ((2, 3), (3, 2))),))))
        self.assertIsNone(look(("raised", 2, some, one_by_one)))
        self.assertIsNone(look(("raised", 2, some, one_by_one[::-1])))
        # What stands twice in the pairs is nothing; pairs without products make nothing, whatever their part is.
        self.assertIsNone(look(("raised", 2, some, one_by_one + ((2, ((2, 2),)), (2, ((2, 2),))))))
        self.assertIsNone(look(("raised", 2, some, one_by_one + ((5, ()), (6, ()), (7, ()), (BIG, ())))))
        self.assertIsNone(look(("raised", 2, some, one_by_one + ((6, ((0, 0),)), (4, ((0, 2),)), (5, ((1, 0),))))))
        self.assertIsNone(look(("raised", 2, some, one_by_one + ((1, ()),) * 198)))
        self.assertEqual(at_of(("raised", 2, some, one_by_one + ((1, ()),) * 199)), 4)
        self.assertIsNone(look(("raised", 2, (), ())))

    def test_rows_of_products_put_together_otherwise(self):
        for n, d in ((2, 7), (3, 8), (4, 6)):
            rows = [judged(n, (p,))[3] for p in standing(n, d)]
            for row in rows:
                for other in rows:
                    both = naive.odd(row + other)
                    some = row[:1]
                    due = 4 if not both else None if some[0] in both else 6
                    self.assertEqual(at_of(("not", n, some, both)), due)

    def test_never_both(self):
        rng = naive.source(172)
        for _ in range(40):
            one, other = (naive.any_rows(rng, 3, range(6)) for _ in range(2))
            same = at_of(("same", one, other)) is None
            apart = any(at_of(("apart", one, other, m)) is None for m in range(9))
            self.assertIs(same, not apart)
        for n, d in ((2, 3), (2, 4), (3, 3), (2, 6)):
            rows = [row for row in naive.all_sums(naive.products_of(n, d))]
            for some in rng.sample(rows, 12):
                paper = judged(n, some)
                refuted = [row for row in rows if at_of(("not", n, some, row)) is None]
                self.assertEqual(refuted == [], paper[0] == "raised")

    def test_where_it_is_sure_no_row_is_let_by(self):
        for n, d in ((1, 4), (1, 6), (2, 5), (2, 9)):
            self.assertTrue(is_sure(n, d))
            for row in naive.all_sums(naive.products_of(n, d)):
                if row:
                    self.assertEqual(at_of(("not", n, row[:1], row)), 5)

    def test_nothing_is_changed_and_asked_again_the_same(self):
        for paper in PAPERS + [["same", [[1, 2]], [[3]]], ("raised", 2, ((1, 2), (2, 1)), [[1, [[1, 1]]]])]:
            before = copy.deepcopy(paper)
            first = at_of(paper)
            self.assertEqual(paper, before)
            self.assertEqual(at_of(paper), first)


class PapersThatDoNot(unittest.TestCase):
    def refused(self, at, *papers):
        for paper in papers:
            self.assertEqual(at_of(paper), at, paper)
            self.assertEqual(asked(paper), at, paper)

    def test_no_paper_at_all(self):
        self.refused(1, *naive.STRANGE)
        self.refused(1, (), ((),), "same", "raised", ["same", (), ()], list(SAME), list(NOT), {}, BIG, ("",),
                     (["same"], (), ()), (("same",), (), ()), (None, (), ()), (True, (), ()), (3, (), ()),
                     ("Same", (), ()), ("same ", (), ()), ("sam", (), ()), ("", (), ()), ("other", 2, (), ()))

    def test_a_thing_too_few_or_too_many(self):
        for paper in PAPERS:
            self.refused(1, paper[:-1], paper + (None,), paper + ((),), paper[:1], paper[1:], paper * 2)
            if len(paper) == 4:
                self.refused(1, ("same",) + paper[1:])
        self.refused(1, ("same", (), (), 0), ("apart", (), ()), ("raised", 2, ()), ("not", 2, ()))

    def test_rows_that_are_none(self):
        for wrong in NO_SUMS_OF_ROWS:
            self.refused(2, ("same", wrong, ()), ("apart", wrong, ((1,),), 1), ("same", wrong, wrong),
                         ("apart", wrong, None, None))
            self.refused(3, ("same", (), wrong), ("apart", ((1,),), wrong, 1), ("apart", (), wrong, None))

    def test_same_that_is_not(self):
        self.refused(4, ("same", ((1,),), ()), ("same", ((2, 1),), ((3,),)), ("same", ((8,),), ()),
                     ("same", ((),), ()), ("same", ((4, 2, 1),), ((5, 2),)))

    def test_m(self):
        for wrong in (None, True, False, 9, -1, BIG, -BIG, "1", (), (1,), [1]):
            self.refused(4, APART[:3] + (wrong,), ("apart", (), (), wrong))
        self.refused(5, ("apart", ((1,),), (), 0), ("apart", ((8,),), (), 7), ("apart", (), (), 3),
                     ("apart",) + SAME[1:] + (8,))

    def test_letters(self):
        for wrong in (None, True, False, 0, 11, -1, BIG, "2", (2,), [2], ()):
            self.refused(2, ("raised", wrong) + RAISED[2:], ("not", wrong) + NOT[2:], ("raised", wrong, (), ()),
                         ("raised", wrong, None, None), ("not", wrong, None, None))
        self.refused(3, ("raised", 3) + RAISED[2:], ("not", 1) + NOT[2:])

    def test_sums(self):
        unlike = [((0, 0), (0, 1)), ((1, 2), (2, 2)), ((0, 30), (0, 31))]
        great = [((0, 25),), ((25, 0),), ((BIG, 0),), ((0, BIG),)]
        none = [None, 2, "ab", [], [(1, 2)], ((1, 2), (1, 2)), ((2, 1), (1, 2)), ((1, True),), ((1, -1),), ((1,),),
                ((1, 2, 3),), ([1, 2],), (1, 2), ((1, "2"),), ((1, None),)]
        for wrong in unlike + great + none:
            self.refused(3, ("raised", 2, wrong, ()), ("not", 2, wrong, wrong), ("not", 2, wrong, ()),
                         ("raised", 2, wrong, None), ("not", 2, wrong, None))
        for n, d in ((1, 25), (3, 19), (4, 9), (5, 6), (6, 5), (7, 4), (8, 4), (9, 4), (10, 3)):
            some = ((d,) + (0,) * (n - 1),)
            self.refused(3, ("raised", n, some, ()), ("not", n, some, some))
            some = ((d - 1,) + (0,) * (n - 1),)
            self.assertIsNotNone(at_of(("raised", n, some, ())))
            self.assertNotEqual(at_of(("raised", n, some, ())), 3)

    def test_pairs(self):
        some, good = RAISED[2], (1, ((1, 1),))
        for wrong in (None, [good], [], "", 1, (good,) * 201, ((1, ()),) * 201, (None,), ([1, ((1, 1),)],), ((1,),),
                      ((),),
                      ((1, ((1, 1),), ()),), good, (good, None), ((0, ((1, 2),)),), ((True, ((1, 1),)),), ((-1, ()),),
                      (("1", ((1, 1),)),), ((None, ((1, 1),)),), ((1, [(1, 1)]),), ((1, ((1, 2),)),),
                      ((2, ((1, 1),)),), ((1, ((0, 0), (1, 1))),), ((1, ((1, 1), (1, 1))),), ((1, ((2, 0), (1, 1))),),
                      ((1, ((1, 1, 0),)),), ((1, ((1, True),)),), ((1, None),), (good, (0, ())), ((4, ((0, 0),)),)):
            self.refused(4, ("raised", 2, some, wrong))
        for wrong in (((1, ()),), (good,), ((1, ()),) * 200, None, [], ((),)):
            self.refused(4, ("raised", 2, (), wrong))
        self.refused(5, ("raised", 2, some, ()), ("raised", 2, some, (good, good)), ("raised", 2, some, ((1, ()),)),
                     ("raised", 2, some, ((1, ((0, 2),)),)),
                     ("raised", 2, some, (good, (2, ((1, 0),)), (1, ((0, 2), (1, 1))))),
                     ("raised", 1, ((3,),), ((1, ((2,),)),)), ("raised", 2, ((0, 0),), ()))

    def test_rows_of_products(self):
        for wrong in (None, [], [(2, 1)], (), ((1, 2), (2, 2)), ((0, 2),), ((2, 1), (1, 2)), ((2, 1), (2, 1)), ((2,

                                                                                                                True),),
                      ((2, 1, 0),), (2, 1), "ab", 3, ((0, 0),), ((BIG, 0),), ((1, 2), (1, 3))):
            self.refused(4, ("not", 2, ((2, 1),), wrong))
        self.refused(4, ("not", 2, (), ()), ("not", 2, (), ((2, 1),)), ("not", 2, ((2, 1),), ()))
        self.refused(5, ("not", 2, ((2, 1),), ((2, 1),)), ("not", 2, ((1, 2), (2, 1)), ((1, 2),)),
                     ("not", 1, ((2,),), ((2,),)), ("not", 1, ((24,),), ((24,),)))
        self.refused(6, ("not", 2, ((1, 2), (2, 1)), ((1, 2), (2, 1))), ("not", 2, ((0, 3),), ((1, 2), (2, 1))))

    def test_right_papers_with_one_thing_changed(self):
        rng = naive.source(173)
        papers = list(PAPERS)
        for n, d in ((1, 7), (1, 8), (2, 6), (2, 7), (3, 4), (3, 5), (4, 3), (5, 2)):
            papers += [judged(n, naive.any_sum_of_degree(rng, n, 3, d)) for _ in range(3)]
            papers.append(judged(n, raised(naive.any_sum_of_degree(rng, n, 3, d - 1), 1)))
        for _ in range(12):
            one = naive.any_rows(rng, 3, range(7))
            papers += [held(one, naive.any_rows(rng, 3, range(7))), held(one, settled(one))]
        met = set()
        for paper in papers:
            self.assertIsNone(at_of(paper))
            for _ in range(150):
                changed = changes(rng, paper)
                self.assertEqual(at_of(changed), asked(changed), changed)
                met.add((paper[0], at_of(changed)))
        due = {("same", 4), ("apart", 5), ("raised", 5), ("not", 6)}
        self.assertTrue(met >= {(kind, at) for kind, last in due for at in range(1, last + 1)}, met)

    def test_twice_changed(self):
        rng = naive.source(174)
        for paper in PAPERS:
            for _ in range(1500):
                changed = changes(rng, changes(rng, paper))
                self.assertEqual(at_of(changed), asked(changed), changed)

    def test_each_product_of_a_lesser_degree_counts(self):
        # Of each raised product a row of one product of it: only by this one it may be refused.
        for n, d in ((1, 6), (2, 5), (3, 4), (4, 3)):
            for product in naive.products_of(n, d):
                due = asked(("not", n, (product,), (product,)))
                self.refused(due, ("not", n, (product,), (product,)))


class WhatTheLookerKnows(unittest.TestCase):
    def drawn_from(self, name):
        tree = ast.parse((PACKAGE / f"{name}.py").read_text(encoding="utf-8"))
        return {node.module.split(".")[1] for node in tree.body if isinstance(node, ast.ImportFrom)}

    def test_raising_rows_and_products_alone(self):
        met, left = set(), ["looker"]
        while left:
            name = left.pop()
            met.add(name)
            left.extend(self.drawn_from(name) - met)
        self.assertEqual(met, {"looker", "errors", "parity", "raising", "rows", "sums"})


if __name__ == "__main__":
    unittest.main()
