import re
import unittest

import naive
from naive import BIG
from raisedsums.counting import need
from raisedsums.desk import Desk
from raisedsums.errors import Full, NoDeed, NoLetters, NoLine, NoName, NoText, RaisedError, TooMany, Unlike
from raisedsums.halving import halved
from raisedsums.judging import judged, standing
from raisedsums.kinds import counts_of
from raisedsums.raising import raised
from raisedsums.rows import done
from raisedsums.settling import settled
from raisedsums.sums import added, degrees, multiplied
from raisedsums.texts import read_rows, read_sum, show_counts, show_rows, show_sum
from raisedsums.turning import turned

NAME, K, REST = "([a-z]{1,8})", "(0|[1-9][0-9]?)", "(.*)"
FORMS = {
    "let": (NAME, REST), "add": (NAME, NAME, NAME), "multiply": (NAME, NAME, NAME), "raise": (NAME, NAME, K),
    "do": (NAME, NAME, REST), "halve": (NAME, NAME), "drop": (NAME,), "undo": (), "show": (NAME,), "degrees": (NAME,),
    "judge": (NAME,), "settle": (REST,), "turn": (REST,), "counts": (REST,), "need": (REST,), "stand": (K,),
    "names": (),
}
DEEDS = ("let", "add", "multiply", "raise", "do", "halve", "drop")
EIGHT = ["one", "two", "three", "four", "five", "six", "seven", "eight"]
NINE_PRODUCTS = "d + c + b + ad + ac + ab + a2d + a2c + a2b"
THIRTEEN_ROWS = " + ".join(["1"] + [f"1.{i}" for i in range(1, 13)])


def words(things):
    return " ".join(things) or "none"


class Model:
    """A desk that keeps all its states, one behind the other."""

    def __init__(self, n):
        self.n = n
        self.states = [{}]

    def say(self, text):
        found = self.parted(text)
        word, given = text.split(" ")[0], list(found.groups())
        form = FORMS[word]
        for i, kind in enumerate(form):
            if kind == REST:
                given[i] = read_sum(self.n, given[i]) if word == "let" else self.few_rows(given[i])
            elif kind == K:
                given[i] = int(given[i])
        kept = self.states[-1]
        for i, kind in enumerate(form):
            if kind == NAME and (i > 0 or word in ("drop", "show", "degrees", "judge")):
                if given[i] not in kept:
                    raise NoName
                if word != "drop":
                    given[i] = kept[given[i]]
        if word in DEEDS or word == "undo":
            return self.deed(word, given)
        return self.answer(word, *given)

    def parted(self, text):
        if type(text) is str:
            for word, form in FORMS.items():
                found = re.fullmatch(" ".join((word,) + form), text, re.DOTALL)
                if found:
                    return found
        raise NoLine

    def few_rows(self, text):
        rows = read_rows(text)
        if len(rows) > 12:
            raise NoText
        return rows

    def deed(self, word, given):
        after = dict(self.states[-1])
        if word == "undo":
            if len(self.states) == 1:
                raise NoDeed
            self.states.pop()
            return "ok"
        if word == "drop":
            after.pop(given[0])
        else:
            make = {"let": lambda some: some, "add": added, "multiply": multiplied, "raise": raised,
                    "do": lambda some, rows: done(rows, some), "halve": halved}[word]
            some = make(*given[1:])
            most, degree = naive.bounds(self.n)
            if len(some) > most or any(sum(p) > degree for p in some):
                raise TooMany
            after[given[0]] = some
            if len(after) > 8:
                raise Full
        self.states.append(after)
        return "ok"

    def answer(self, word, value=None):
        if word == "judge":
            told = judged(self.n, value)
            if told[0] == "not":
                return "not " + show_sum(told[3])
            return "raised" + "".join(f"\n{k} {show_sum(some)}" for k, some in told[3])
        return {
            "show": lambda: show_sum(value),
            "degrees": lambda: words(map(str, degrees(value))),
            "settle": lambda: show_rows(settled(value)),
            "turn": lambda: show_rows(turned(value)),
            "counts": lambda: show_counts(counts_of(value)),
            "need": lambda: str(need(counts_of(value))).lower(),
            "stand": lambda: words(show_sum((p,)) for p in standing(self.n, value)),
            "names": lambda: words(sorted(self.states[-1])),
        }[word]()


def told_by(desk, text):
    try:
        return desk.say(text)
    except RaisedError as error:
        return type(error)


class OnADesk(unittest.TestCase):
    def desk(self, n, *lines):
        desk = Desk(n)
        for line in lines:
            self.assertEqual(desk.say(line), "ok", line)
        return desk

    def tells(self, desk, *pairs):
        for line, told in pairs:
            self.assertEqual(told_by(desk, line), told, line)

    def full_desk(self, n=3):
        return self.desk(n, *[f"let {name} a" for name in EIGHT])

    def state(self, desk):
        names = desk.say("names")
        return [(name, desk.say(f"show {name}")) for name in names.split(" ") if names != "none"]

    def refuses(self, desk, error, *lines):
        """And nothing is changed by it."""
        before = self.state(desk)
        for line in lines:
            self.assertEqual(told_by(desk, line), error, line)
        self.assertEqual(self.state(desk), before)


class Letters(OnADesk):
    def test_from_one_to_ten(self):
        for n in range(1, 11):
            desk = Desk(n)
            letters = " + ".join("abcdefghij"[:n][::-1]) if n <= 8 else "1"
            self.assertEqual(desk.say(f"let x {letters}"), "ok")
            self.assertEqual(desk.say("show x"), letters)
            self.refuses(desk, NoText, "let x " + "abcdefghijk"[n])

    def test_any_other_thing(self):
        for thing in naive.STRANGE + [0, 11, 12, BIG, -BIG, "3", (3,), [3], ()]:
            with self.assertRaises(NoLetters, msg=thing):
                Desk(thing)


class EachWord(OnADesk):
    def test_let_and_show(self):
        desk = Desk(3)
        self.tells(desk, ("let x b + a", "ok"), ("show x", "b + a"), ("let x 0", "ok"), ("show x", "0"),
                   ("let y 1", "ok"), ("show y", "1"), ("let y a24", "ok"), ("show y", "a24"), ("show x", "0"))

    def test_add(self):
        desk = self.desk(3, "let x b + a", "let y c + a")
        self.tells(desk, ("add z x y", "ok"), ("show z", "c + b"), ("add x x x", "ok"), ("show x", "0"),
                   ("show y", "c + a"))

    def test_multiply(self):
        desk = self.desk(3, "let x b + a", "let y c")
        self.tells(desk, ("multiply z x y", "ok"), ("show z", "bc + ac"), ("multiply x x x", "ok"),
                   ("show x", "b2 + a2"))

    def test_raise(self):
        desk = self.desk(3, "let x ab")
        self.tells(desk, ("raise y x 0", "ok"), ("show y", "ab"), ("raise y x 1", "ok"), ("show y", "ab2 + a2b"),
                   ("raise y x 2", "ok"), ("show y", "a2b2"), ("raise y x 3", "ok"), ("show y", "0"),
                   ("raise x x 99", "ok"), ("show x", "0"))

    def test_do(self):
        desk = self.desk(2, "let x a")
        self.tells(desk, ("do y x 2.1", "ok"), ("show y", "a4"), ("do y x - + 1", "ok"), ("show y", "a + a2"),
                   ("do y x 0", "ok"), ("show y", "0"), ("do y x -", "ok"), ("show y", "a"))

    def test_halve(self):
        desk = self.desk(2, "let x ab3 + a2b2 + a5b7")
        self.tells(desk, ("halve y x", "ok"), ("show y", "b + a2b3"), ("halve y y", "ok"), ("show y", "0"),
                   ("halve y y", "ok"))

    def test_drop_and_names(self):
        desk = Desk(2)
        self.tells(desk, ("names", "none"), ("let x a", "ok"), ("let b a", "ok"), ("let abc a", "ok"),
                   ("names", "abc b x"), ("drop b", "ok"), ("names", "abc x"), ("show b", NoName), ("drop b", NoName),
                   ("drop x", "ok"), ("drop abc", "ok"), ("names", "none"))

    def test_degrees(self):
        desk = self.desk(2, "let x 1 + b10 + b11 + a + ab9", "let y 0", "let z 1")
        self.tells(desk, ("degrees x", "0 1 10 11"), ("degrees y", "none"), ("degrees z", "0"))

    def test_judge(self):
        desk = self.desk(2, "let x ab2 + a2b", "let y a2b", "let z 0", "let u a + a2", "let v a", "let w 1")
        self.tells(desk, ("judge x", "raised\n1 ab"), ("judge y", "not ab2 + a2b"), ("judge z", "raised"),
                   ("judge u", Unlike), ("judge v", "not a"), ("judge w", "not 1"))
        desk = self.desk(3, "let x a19", "let y a18", "let z a + a19")
        self.tells(desk, ("judge x", TooMany), ("judge z", Unlike))
        self.assertEqual(desk.say("judge y").split("\n")[0], "raised")

    def test_judge_of_many_pairs(self):
        rng = naive.source(190)
        met = set()
        for n in (1, 2, 3):
            for _ in range(40):
                d = rng.randint(2, 18)
                some = ()
                for k in (1, d // 2):
                    some = added(some, raised(naive.any_sum_of_degree(rng, n, 3, d - k), k))
                if len(some) <= 40:
                    lines = self.desk(n, "let x " + show_sum(some)).say("judge x").split("\n")
                    self.assertEqual(lines[0], "raised")
                    back = ()
                    for line in lines[1:]:
                        k, text = line.split(" ", 1)
                        back = added(back, raised(read_sum(n, text), int(k)))
                    self.assertEqual(back, some)
                    met.add(len(lines))
        self.assertGreater(max(met), 2)

    def test_of_rows(self):
        desk = Desk(1)
        self.tells(desk, ("settle 2.2.2", "5.1"), ("settle 1.1", "0"), ("settle 0", "0"), ("settle -", "-"),
                   ("settle 1.2 + 3", "0"), ("turn 1.2", "2.1"), ("turn -", "-"), ("turn 0", "0"),
                   ("turn 4", "3.1 + 4"), ("counts 2.1", "0,1 + 3"), ("counts -", "-"), ("counts 0", "0"),
                   ("counts 1.1", "0"), ("need 2.1", "1"), ("need -", "0"), ("need 0", "none"), ("need 1.1", "none"),
                   ("need 3", "3"))

    def test_stand(self):
        self.tells(Desk(1), ("stand 0", "1"), ("stand 3", "a3"), ("stand 4", "none"), ("stand 24", "none"),
                   ("stand 25", TooMany))
        self.tells(Desk(2), ("stand 3", "b3 ab2 a3"), ("stand 5", "none"), ("stand 99", TooMany))
        self.tells(Desk(3), ("stand 5", "abc3 ab3c a3bc"),
                   ("stand 18", words(show_sum((p,)) for p in standing(3, 18))), ("stand 19", TooMany))
        self.tells(Desk(10), ("stand 1", "j i h g f e d c b a"), ("stand 3", TooMany))

    def test_names_that_are_words_of_the_desk(self):
        for word in FORMS:
            desk = Desk(2)
            self.tells(desk, (f"let {word} a", "ok"), (f"show {word}", "a"), ("names", word),
                       (f"add {word} {word} {word}", "ok"), (f"show {word}", "0"), (f"raise {word} {word} 1", "ok"),
                       (f"do {word} {word} 1", "ok"), (f"halve {word} {word}", "ok"), (f"degrees {word}", "none"),
                       (f"drop {word}", "ok"), ("names", "none"))
        self.tells(self.desk(1, "let none a"), ("names", "none"), ("show none", "a"), ("drop none", "ok"),
                   ("drop none", NoName))


class Refusals(OnADesk):
    def test_no_line(self):
        desk = self.desk(3, "let a a", "let b b")
        self.refuses(desk, NoLine, *[thing for thing in naive.STRANGE if not isinstance(thing, str)])
        self.refuses(desk, NoLine, 3, (), ["show a"], ("show a",), ["show", "a"], BIG)
        self.refuses(desk, NoLine, "", " ", "  ", "\n", "Show a", "SHOW a", "shows a", "sho a", "a", "look a", "quit",
                     "0", "show\n", "show\na", "show\ta", "show,a", "+")
        for word, form in FORMS.items():
            self.refuses(desk, NoLine, f" {word}", word.upper(), word + "s", word[:-1])
            if REST not in form:
                self.refuses(desk, NoLine, f"{word} a b c d e")

    def test_too_few_words(self):
        desk = self.desk(3, "let a a", "let b b")
        self.refuses(desk, NoLine, "let", "let a", "let ", "add", "add a", "add a b", "add a b ", "multiply a b",
                     "raise a", "raise a b", "raise a b ", "do a b", "do a", "do", "do ", "do a ", "halve a", "halve",
                     "halve a ", "drop", "drop ", "show", "show ", "degrees", "judge", "settle", "turn", "counts",
                     "need", "stand", "stand ")

    def test_too_many_words(self):
        desk = self.desk(3, "let a a", "let b b")
        self.refuses(desk, NoLine, "add a a b b", "add a a b ", "multiply a a b b", "raise a b 1 1", "raise a b 1 ",
                     "halve a b b", "halve a b ", "drop a b", "drop a ", "undo a", "undo ", "undo 1", "show a b",
                     "show a ", "degrees a b", "judge a b", "judge a ", "stand 1 2", "stand 1 ", "names a", "names ")

    def test_blanks(self):
        desk = self.desk(3, "let a a", "let b b")
        self.refuses(desk, NoLine, "let  a b", " let a b", "let  a", "add a  a b", "add  a a b", "add a a  b",
                     " add a a b", "raise a  b 1", "raise a b  1", "do  a b 1", "do a  b 1", "halve  a b",
                     "halve a  b", " names", "show  a", "  show a", "stand  1", " stand 1", " settle 1", "undo  ")
        # Behind the words that are due the blanks are the SUM's or ROWS'.
        self.refuses(desk, NoText, "let a  b", "let a b ", "let a ", "let a  ", "let a b  + a", "do a b  1",
                     "do a b 1 ", "do a b ", "do a b  ", "settle  1", "settle 1 ", "settle ", "settle  ", "turn ",
                     "counts ", "need ", "turn 1 ", "counts  1", "need 1  + 2")

    def test_names(self):
        desk = self.desk(3, "let a a", "let abcdefgh b")
        for wrong in ("abcdefghi", "A", "aB", "a1", "1", "a-b", "a_b", "a.", "+", "a\n", "\na", "", "0", "~",
                      "zzzzzzzzz"):
            self.refuses(desk, NoLine, f"let {wrong} a", f"add {wrong} a a", f"add a {wrong} a", f"add a a {wrong}",
                         f"multiply {wrong} a a", f"multiply a {wrong} a", f"multiply a a {wrong}",
                         f"raise {wrong} a 1", f"raise a {wrong} 1", f"do {wrong} a 1", f"do a {wrong} 1",
                         f"halve {wrong} a", f"halve a {wrong}", f"drop {wrong}", f"show {wrong}", f"degrees {wrong}",
                         f"judge {wrong}")
        self.tells(desk, ("show abcdefgh", "b"), ("let zzzzzzzz c", "ok"), ("show zzzzzzzz", "c"))

    def test_numbers(self):
        desk = self.desk(3, "let a a")
        for wrong in ("", "00", "01", "09", "100", "001", "-1", "+1", "1.", "1,0", "a", "1a", "a1", "1\n", "\n1",
                      "None", "0x", "1_"):
            self.refuses(desk, NoLine, f"raise b a {wrong}", f"stand {wrong}")
        self.tells(desk, ("raise b a 0", "ok"), ("raise b a 10", "ok"), ("raise b a 99", "ok"), ("stand 0", "1"))

    def test_no_text(self):
        desk = self.desk(2, "let a a")
        self.refuses(desk, NoText, "let b ", "let b a + b", "let b c", "let b a1", "let b a100", "let b a\n",
                     "let b \n", "let b b + a\n", "let b 0 ", "let b a b", "let b -")
        for start in ("settle", "turn", "counts", "need", "do b a"):
            self.refuses(desk, NoText, f"{start} ", f"{start} 17", f"{start} 2 + 1", f"{start} 01", f"{start} 1.0",
                         f"{start} a", f"{start} 1\n", f"{start} 1 1", f"{start} 1,1", f"{start} 1.1.1.1.1.1.1",
                         f"{start} 1 + 1", f"{start} {THIRTEEN_ROWS}")

    def test_twelve_rows(self):
        twelve = " + ".join(THIRTEEN_ROWS.split(" + ")[:12])
        rows = read_rows(twelve)
        self.assertEqual((len(rows), len(read_rows(THIRTEEN_ROWS))), (12, 13))
        desk = self.desk(2, "let a ab")
        self.tells(desk, (f"settle {twelve}", show_rows(settled(rows))), (f"turn {twelve}", show_rows(turned(rows))),
                   (f"counts {twelve}", show_counts(counts_of(rows))), (f"need {twelve}", str(need(counts_of(rows)))),
                   (f"do b a {twelve}", "ok"), ("show b", show_sum(done(rows, ((1, 1),)))))

    def test_no_name(self):
        desk = self.desk(2, "let a a")
        self.refuses(desk, NoName, "add b a x", "add b x a", "add x x x", "multiply b a x", "multiply b x a",
                     "raise b x 1", "raise x x 1", "do b x 1", "do x x -", "halve b x", "drop x", "show x",
                     "degrees x", "judge x", "show b")

    def test_too_many_kept(self):
        desk = self.desk(3, "let a a24", "let b 1 + c + b + a", "let c c20 + b20")
        self.refuses(desk, TooMany, "let x a25", "let x a99", "let x a12b13", "let x 1 + a24b", "raise x a 8",
                     "multiply x a b", "do x a 8", "do x a - + 8", "raise a a 8", "raise b c 16", "multiply c c c")
        self.tells(desk, ("multiply x a a", TooMany), ("raise x a 1", "ok"), ("show x", "0"), ("do x a 16", TooMany))
        many = [f"a{i}b{j}" for i in range(2, 9) for j in range(2, 8)]
        self.assertEqual(len(many), 42)
        self.tells(desk, ("let x " + " + ".join(many), TooMany), ("let x " + " + ".join(many[:41]), TooMany),
                   ("let x " + " + ".join(many[:40]), "ok"), ("show x", " + ".join(many[:40])))
        desk = self.desk(4, "let x a10", "let y 1 + a + a2 + a3", "let z 1 + b")
        self.refuses(desk, TooMany, f"let u {NINE_PRODUCTS}", "let u a11", "let u a5b6", "let u a99", "raise u x 2",
                     "multiply u x z", "raise x x 10")
        self.tells(desk, ("multiply u y z", "ok"), ("let v b4", "ok"), ("add v u v", TooMany), ("show v", "b4"))

    def test_full(self):
        desk = self.full_desk()
        self.refuses(desk, Full, "let nine a", "add nine one two", "multiply nine one two", "raise nine one 1",
                     "do nine one 1", "halve nine one", "let nine 0")
        self.tells(desk, ("let eight b", "ok"), ("show eight", "b"), ("add one one eight", "ok"), ("let nine a", Full),
                   ("drop two", "ok"), ("let nine a", "ok"), ("let two a", Full),
                   ("names", words(sorted(set(EIGHT) - {"two"} | {"nine"}))))

    def test_the_first_of_several_refusals(self):
        desk = self.full_desk(3)
        self.assertEqual(desk.say("let one a + a2"), "ok")
        self.assertEqual(desk.say("let two a24"), "ok")
        # A wrong word, a wrong text, an unknown name, a sum too great and a ninth name.
        self.refuses(desk, NoLine, "let NINE a99 + b", "let nine1 a + a", "do nine X 17", "do 9 x 17", "add nine x 1",
                     "raise nine x 01", "raise nine x 8 8", "add nine x y z", "multiply Nine two two", "show one x",
                     "halve x y z", "do nine x")
        self.refuses(desk, NoText, "let nine a + b", "let nine a100", "let nine a25 + b", "do nine x 17",
                     "do nine two 8 + 8", "do nine x ", f"do nine x {THIRTEEN_ROWS}", f"do nine two {THIRTEEN_ROWS}",
                     "let nine d25")
        self.refuses(desk, NoName, "add nine x one", "add nine one x", "do nine x 8", "multiply nine x two",
                     "multiply nine two x", "raise nine x 8", "halve nine x")
        self.refuses(desk, TooMany, "let nine a25", "multiply nine two two", "raise nine two 8", "do nine two 8",
                     "raise nine two 24")
        self.refuses(desk, Full, "let nine a24", "raise nine two 1", "halve nine two")
        self.refuses(desk, Unlike, "judge one")
        self.assertEqual(desk.say("let three a + a24"), "ok")
        self.refuses(desk, Unlike, "judge three")
        self.refuses(desk, TooMany, "judge two")

    def test_what_is_refused_is_no_deed(self):
        desk = self.desk(2, "let a a", "let b b")
        self.refuses(desk, NoLine, "let C a", "undo 1", "drop")
        self.refuses(desk, NoText, "let c a + b", "let a ")
        self.refuses(desk, NoName, "add c x a", "drop x")
        self.refuses(desk, TooMany, "let c a25", "let a a25", "stand 30")
        self.assertEqual(self.state(desk), [("a", "a"), ("b", "b")])
        self.tells(desk, ("undo", "ok"), ("names", "a"), ("undo", "ok"), ("names", "none"), ("undo", NoDeed))
        desk = self.full_desk(2)
        self.refuses(desk, Full, "let nine a", "let ten a")
        self.tells(desk, ("undo", "ok"), ("names", words(sorted(EIGHT[:7]))))


class Undo(OnADesk):
    def test_nothing_to_take_back(self):
        desk = Desk(2)
        self.refuses(desk, NoDeed, "undo", "undo")
        self.tells(desk, ("names", "none"), ("settle 1.1", "0"), ("stand 1", "b a"), ("undo", NoDeed))

    def test_each_deed(self):
        start = ["let x b + a", "let y ab", "let z a"]
        for line in ("let x 1", "let new 1", "add x x y", "add new x y", "multiply x x y", "multiply new x x",
                     "raise x x 1", "raise new y 1",
                     "do y y 1", "do new x - + 1", "halve y y", "halve new y", "drop x", "drop z", "let x b + a"):
            desk = self.desk(2, *start)
            before = self.state(desk)
            self.tells(desk, (line, "ok"))
            after = self.state(desk)
            self.tells(desk, ("undo", "ok"))
            self.assertEqual(self.state(desk), before, line)
            self.tells(desk, (line, "ok"))
            self.assertEqual(self.state(desk), after, line)
            # Behind it, the deeds of the start are still there to be taken back.
            self.tells(desk, *[("undo", "ok")] * 4, ("names", "none"), ("undo", NoDeed))

    def test_deed_by_deed(self):
        desk = self.desk(2, "let x a", "let x b", "let x 0", "drop x", "let x ab")
        self.tells(desk, ("show x", "ab"), ("undo", "ok"), ("show x", NoName), ("undo", "ok"), ("show x", "0"),
                   ("undo", "ok"), ("show x", "b"), ("undo", "ok"), ("show x", "a"), ("let x a2", "ok"),
                   ("undo", "ok"), ("show x", "a"), ("undo", "ok"), ("show x", NoName), ("undo", NoDeed))

    def test_what_only_tells_is_no_deed(self):
        desk = self.desk(2, "let x a2")
        for line in ("show x", "degrees x", "judge x", "settle 1", "turn 1", "counts 1", "need 1", "stand 1", "names"):
            self.assertIs(type(desk.say(line)), str)
        self.tells(desk, ("undo", "ok"), ("names", "none"), ("undo", NoDeed))

    def test_many_deeds(self):
        desk = Desk(3)
        for i in range(2, 25):
            for name in EIGHT:
                self.tells(desk, (f"let {name} a{i}", "ok"))
        for i in range(24, 1, -1):
            for name in reversed(EIGHT):
                self.tells(desk, (f"show {name}", f"a{i}"), ("undo", "ok"))
        self.tells(desk, ("names", "none"), ("undo", NoDeed))


class TwoDesks(OnADesk):
    def test_beside_one_another(self):
        one, other = self.desk(2, "let x a"), self.desk(3, "let x c", "let y abc")
        self.tells(one, ("show x", "a"), ("show y", NoName), ("let x b", "ok"))
        self.tells(other, ("show x", "c"), ("undo", "ok"), ("undo", "ok"), ("undo", NoDeed))
        self.tells(one, ("show x", "b"), ("undo", "ok"), ("show x", "a"), ("undo", "ok"), ("undo", NoDeed))
        self.tells(Desk(2), ("names", "none"))


class AgainstTheModel(OnADesk):
    # The wrong ones stand last in each list, so that they can be left out.
    NAMES = ["x", "y", "z", "u", "v", "let", "undo", "names", "abcdefgh", "w", "wrong1", ""]
    NUMBERS = ["0", "1", "2", "3", "4", "8", "10", "24", "25", "99", "01", "100", ""]

    def any_word(self, rng, n, kind, word):
        if kind == NAME:
            return rng.choice(self.NAMES[:rng.choice((4, 10, 12))])
        if kind == K:
            return rng.choice(self.NUMBERS[:rng.choice((6, 13))])
        if word == "let":
            few = rng.choice((2, 4))
            sums = [naive.any_sum(rng, n, few, 6), naive.any_sum_of_degree(rng, n, few, 3)]
            return rng.choice([show_sum(some) for some in sums] + ["a + a", "", "a26", "a8", "k"])
        rows = show_rows(naive.any_rows(rng, 2, range(4)))
        return rng.choice([rows, "1", "1.1", "-", "0", "2 + 1", "", THIRTEEN_ROWS])

    def any_line(self, rng, n):
        word = rng.choice(list(FORMS) + ["let"] * 6 + ["undo", "undo", "look"])
        line = " ".join([word] + [self.any_word(rng, n, kind, word) for kind in FORMS.get(word, ())])
        if rng.random() < 0.05:
            at = rng.randrange(len(line) + 1)
            line = line[:at] + rng.choice(" \na1") + line[at:]
        return line

    def test_long_talks(self):
        rng = naive.source(191)
        met = set()
        for n in (1, 2, 3, 4, 10):
            for _ in range(8):
                desk, model = Desk(n), Model(n)
                for _ in range(150):
                    line = self.any_line(rng, n)
                    told = told_by(desk, line)
                    self.assertEqual(told, told_by(model, line), line)
                    met.add(told if isinstance(told, type) else line.split(" ")[0])
                    kept = model.states[-1]
                    self.assertEqual(self.state(desk), [(name, show_sum(kept[name])) for name in sorted(kept)])
        self.assertEqual(met, set(FORMS) | {NoLine, NoText, NoName, TooMany, Full, NoDeed, Unlike})


if __name__ == "__main__":
    unittest.main()
