import itertools
import re
import unittest

import naive
from naive import BIG
from raisedsums.counting import are_counts
from raisedsums.errors import NoText
from raisedsums.rows import are_rows
from raisedsums.sums import is_sum
from raisedsums.texts import read_counts, read_rows, read_sum, show_counts, show_rows, show_sum

NO_TEXTS = [thing for thing in naive.STRANGE if not isinstance(thing, str)]
NO_TEXTS += [0, 1, 12, BIG, (), ((1, 2),), [["a"]], ("a",), ["a", "b"]]
NUMBER = "(?:[1-9][0-9]?)"


def is_text_of_sum(n, text):
    """By a pattern for each product, and by comparing exponents."""
    if text == "0":
        return True
    letters = "abcdefghij"[:n]
    pattern = "".join(f"({x}(?:[2-9]|[1-9][0-9])?)?" for x in letters)
    found = []
    for part in text.split(" + "):
        match = re.fullmatch(pattern, part)
        if part == "1":
            found.append((0,) * n)
        elif match and part:
            found.append(tuple(0 if not group else int(group[1:] or 1) for group in match.groups()))
        else:
            return False
    return found == sorted(set(found))


def is_text_of_rows(text):
    if text == "0":
        return True
    parts = text.split(" + ")
    if not all(part == "-" or re.fullmatch(rf"{NUMBER}(?:\.{NUMBER}){{0,5}}", part) for part in parts):
        return False
    rows = [() if part == "-" else tuple(map(int, part.split("."))) for part in parts]
    return all(sum(row) <= 16 for row in rows) and rows == sorted(set(rows))


def is_text_of_counts(text):
    if text == "0":
        return True
    parts = text.split(" + ")
    if not all(part == "-" or re.fullmatch(rf"(?:(?:0|{NUMBER}),){{0,3}}{NUMBER}", part) for part in parts):
        return False
    told = [() if part == "-" else tuple(map(int, part.split(","))) for part in parts]
    return all(naive.counts_raise(numbers) <= 16 for numbers in told) and told == sorted(set(told))


def changes(rng, text, signs):
    """The text with one sign more, less or other, or two of them exchanged."""
    at = rng.randrange(len(text) + 1)
    sign = rng.choice(signs)
    return rng.choice([text[:at] + sign + text[at:], text[:at] + text[at + 1:], text[:at] + sign + text[at + 1:],
                       text[:at] + text[at + 1:at + 2] + text[at:at + 1] + text[at + 2:]])


class Texts(unittest.TestCase):
    def refuses(self, read, *texts):
        for text in texts:
            with self.assertRaises(NoText, msg=repr(text)):
                read(text)

    def reads_just(self, read, show, due, texts):
        """The reader takes just the texts that are due, and what it takes is written so."""
        met = set()
        for text in texts:
            if due(text):
                self.assertEqual(show(read(text)), text)
            else:
                self.refuses(read, text)
            met.add(due(text))
        self.assertEqual(met, {True, False})


class Sums(Texts):
    def test_ordinary(self):
        self.assertEqual(show_sum(((3, 1, 10),)), "a3bc10")
        self.assertEqual(show_sum(((0, 1), (1, 0))), "b + a")
        self.assertEqual(show_sum(((0, 2), (1, 1), (2, 0))), "b2 + ab + a2")
        self.assertEqual(show_sum(((1,) * 10,)), "abcdefghij")
        self.assertEqual(read_sum(3, "a3bc10"), ((3, 1, 10),))
        self.assertEqual(read_sum(2, "b + a"), ((0, 1), (1, 0)))
        self.assertEqual(read_sum(3, "b + a"), ((0, 1, 0), (1, 0, 0)))
        self.assertEqual(read_sum(10, "j99 + a"), ((0,) * 9 + (99,), (1,) + (0,) * 9))

    def test_edges(self):
        self.assertEqual(show_sum(()), "0")
        for n in range(1, 11):
            self.assertEqual(show_sum(((0,) * n,)), "1")
            self.assertEqual(read_sum(n, "0"), ())
            self.assertEqual(read_sum(n, "1"), ((0,) * n,))
            self.assertEqual(read_sum(n, "1 + a"), ((0,) * n, (1,) + (0,) * (n - 1)))

    def test_exponents(self):
        for e in range(2, 100):
            self.assertEqual(show_sum(((e,),)), f"a{e}")
            self.assertEqual(read_sum(1, f"a{e}"), ((e,),))
            self.assertEqual(read_sum(2, f"a{e}b{e}"), ((e, e),))
        # More than two figures are only written.
        for e in (100, 101, 999, 1000, BIG):
            self.assertEqual(show_sum(((0, e), (1, e))), f"b{e} + ab{e}")
            self.refuses(lambda text: read_sum(2, text), f"b{e}", f"b{e} + ab{e}", f"a{e}b", f"b + a{e}")

    def test_written_and_read_again(self):
        rng = naive.source(180)
        for n in range(1, 11):
            most, degree = naive.bounds(n)
            for _ in range(30):
                some = naive.any_sum(rng, n, most, degree)
                self.assertEqual(read_sum(n, show_sum(some)), some)
                some = tuple(sorted({tuple(rng.choice((0, 1, 2, 9, 10, 11, 99)) for _ in range(n)) for _ in range(6)}))
                self.assertEqual(read_sum(n, show_sum(some)), some)

    def test_what_is_no_such_text(self):
        self.refuses(lambda text: read_sum(3, text), "", " ", "a + b", "b + b", "c + a + b", "a + a", "a0", "a1",
                     "a01", "a02", "a00", "b1c", "a100", "a002", "ba", "ca", "aa", "a2a", "acb", "d", "ad", "j", "A",
                     "a ", " a", "a +b", "a+b", "b  + a", "b +  a", "b + a ", " b + a", "b + a + ", " + a", "+", " + ",
                     "a +", "+ a", "0 + a", "0 + 0", "00", "01", "11", "10", "2", "2a", "1a", "a1 + a2", "a2 + 1",
                     "a + 1", "1 + 1", "a\n", "\na", "b\n+ a", "b +\na", "0\n", "1\n", "b + a\n", "a-1", "a.2", "a^2",
                     "a*b", "a b", "a,b", "-", "none", "a3bc10d", "\n", "\r\n", "a\r\n", "a\t")
        self.refuses(lambda text: read_sum(1, text), "b", "ab", "b + a")
        self.refuses(lambda text: read_sum(10, text), "k", "ak", "abcdefghijk", "a + b")

    def test_long_texts(self):
        self.refuses(lambda text: read_sum(2, text), "a" * 1500, "a" + "9" * 1499, "9" * 1500, " + " * 500, "0" * 1500,
                     "a + " * 375, " " * 1500, "1" * 1500, "\n" * 1500)
        some = tuple(sorted((e, f) for e in range(10, 26) for f in range(10, 20)))
        self.assertGreater(len(show_sum(some)), 1400)
        self.assertEqual(read_sum(2, show_sum(some)), some)

    def test_things_that_are_no_text(self):
        for n in (1, 3, 10):
            self.refuses(lambda text: read_sum(n, text), *NO_TEXTS)

    def test_all_short_texts(self):
        signs = "ab01 +2\n"
        texts = ["".join(t) for length in range(6) for t in itertools.product(signs, repeat=length)]
        self.reads_just(lambda text: read_sum(2, text), show_sum, lambda text: is_text_of_sum(2, text), texts)

    def test_right_texts_with_one_sign_changed(self):
        rng = naive.source(181)
        for n in (1, 2, 3, 4, 10):
            right = [show_sum(naive.any_sum(rng, n, rng.randint(0, 4), 24)) for _ in range(60)]
            texts = right + [changes(rng, text, "abcdjk0123459 +-\n.A") for text in right for _ in range(40)]
            self.reads_just(lambda text: read_sum(n, text), show_sum, lambda text: is_text_of_sum(n, text), texts)

    def test_what_is_read_is_a_sum(self):
        rng = naive.source(182)
        for _ in range(400):
            text = changes(rng, show_sum(naive.any_sum(rng, 3, 4, 20)), "abc0123 +")
            try:
                told = read_sum(3, text)
            except NoText:
                continue
            self.assertIs(is_sum(3, told), True)
            self.assertEqual(show_sum(told), text)


class Rows(Texts):
    def test_ordinary(self):
        self.assertEqual(show_rows(((2, 1), (3,))), "2.1 + 3")
        self.assertEqual(show_rows(((10, 4, 2),)), "10.4.2")
        self.assertEqual(read_rows("2.1 + 3"), ((2, 1), (3,)))
        self.assertEqual(read_rows("- + 1 + 1.1 + 16"), ((), (1,), (1, 1), (16,)))

    def test_edges(self):
        self.assertEqual(show_rows(()), "0")
        self.assertEqual(show_rows(((),)), "-")
        self.assertEqual(show_rows(((), (1,))), "- + 1")
        self.assertEqual(read_rows("0"), ())
        self.assertEqual(read_rows("-"), ((),))
        self.assertEqual(read_rows("1.1.1.1.1.11"), ((1, 1, 1, 1, 1, 11),))

    def test_written_and_read_again(self):
        rng = naive.source(183)
        for r in range(17):
            for row in naive.rows_raising(r)[:400]:
                self.assertEqual(read_rows(show_rows((row,))), (row,))
            for _ in range(10):
                rows = naive.any_rows(rng, 12, range(r + 1))
                self.assertEqual(read_rows(show_rows(rows)), rows)
        # However many there are.
        many = tuple(sorted(row for r in range(8) for row in naive.rows_raising(r)))
        self.assertGreater(len(many), 100)
        self.assertEqual(read_rows(show_rows(many)), many)

    def test_what_is_no_such_text(self):
        self.refuses(read_rows, "", " ", "1 ", " 1", "1 + 1", "2 + 1", "3 + 2.1", "1 + -", "- + -", "0 + 1", "0.1",
                     "1.0", "01", "1.01", "00", "1.", ".1", "1..1", ".", "--", "-1", "1.-", "-.1", "17", "16.1",
                     "8.8.1", "9.9", "100", "1.1.1.1.1.1.1", "1,1", "1 1", "1 . 1", "1. 1", "1+2", "1 +2", "1  + 2",
                     "1 +  2", "1 + 2 ", "1 + ", " + 1", " + ", "+", "a", "1.a", "1\n", "\n1", "1\n+ 2", "0\n", "-\n",
                     "\n", "1.+1", "1e1", "999999", "9" * 1500, "1." * 750, "none")

    def test_things_that_are_no_text(self):
        self.refuses(read_rows, *NO_TEXTS)

    def test_all_short_texts(self):
        texts = ["".join(t) for length in range(6) for t in itertools.product("017.-+ ", repeat=length)]
        self.reads_just(read_rows, show_rows, is_text_of_rows, texts)

    def test_right_texts_with_one_sign_changed(self):
        rng = naive.source(184)
        right = [show_rows(naive.any_rows(rng, rng.randint(0, 4), range(17))) for _ in range(60)]
        texts = right + [changes(rng, text, "01234567 +-.,\n") for text in right for _ in range(40)]
        self.reads_just(read_rows, show_rows, is_text_of_rows, texts)
        for text in texts:
            if is_text_of_rows(text):
                self.assertIs(are_rows(read_rows(text)), True)


class Counts(Texts):
    def test_ordinary(self):
        self.assertEqual(show_counts(((0, 1), (3,))), "0,1 + 3")
        self.assertEqual(show_counts(((1, 0, 2),)), "1,0,2")
        self.assertEqual(read_counts("0,1 + 3"), ((0, 1), (3,)))
        self.assertEqual(read_counts("- + 0,0,0,1 + 1,5 + 16"), ((), (0, 0, 0, 1), (1, 5), (16,)))

    def test_edges(self):
        self.assertEqual(show_counts(()), "0")
        self.assertEqual(show_counts(((),)), "-")
        self.assertEqual(read_counts("0"), ())
        self.assertEqual(read_counts("-"), ((),))

    def test_written_and_read_again(self):
        for r in range(17):
            for counts in naive.counts_raising(r):
                self.assertEqual(read_counts(show_counts((counts,))), (counts,))
            self.assertEqual(read_counts(show_counts(naive.counts_raising(r))), naive.counts_raising(r))

    def test_what_is_no_such_text(self):
        self.refuses(read_counts, "", " ", "1 ", " 1", "1 + 1", "2 + 1", "3 + 0,1", "1 + -", "- + -", "0 + 1", "1,0",
                     "0,0", "0,1,0", "01", "00,1", "0,01", "1,", ",1", "1,,1", ",", "--", "-1", "-,1", "17", "2,5",
                     "0,6", "0,0,3", "0,0,0,2", "2,0,0,1", "0,0,0,0,1", "100", "1.1", "1 1", "0, 1", "1+2", "1 +2",
                     "1  + 2", "1 + 2 ", "1 + ", " + 1", "a", "1,a", "1\n", "\n1", "0\n", "-\n", "\n", "9" * 1500,
                     "0," * 750, "none")

    def test_things_that_are_no_text(self):
        self.refuses(read_counts, *NO_TEXTS)

    def test_all_short_texts(self):
        texts = ["".join(t) for length in range(6) for t in itertools.product("012,-+ ", repeat=length)]
        self.reads_just(read_counts, show_counts, is_text_of_counts, texts)

    def test_right_texts_with_one_sign_changed(self):
        rng = naive.source(185)
        right = [show_counts(naive.any_counts(rng, rng.randint(0, 4), range(17))) for _ in range(60)]
        texts = right + [changes(rng, text, "01234567 +-.,\n") for text in right for _ in range(40)]
        self.reads_just(read_counts, show_counts, is_text_of_counts, texts)
        for text in texts:
            if is_text_of_counts(text):
                self.assertIs(are_counts(read_counts(text)), True)


if __name__ == "__main__":
    unittest.main()
