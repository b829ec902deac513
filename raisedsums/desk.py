"""A desk that keeps sums by names, is told lines and answers texts."""

from raisedsums.counting import need
from raisedsums.errors import Full, NoDeed, NoLetters, NoLine, NoName, NoText, TooMany
from raisedsums.halving import halved
from raisedsums.judging import judged, standing
from raisedsums.kinds import counts_of
from raisedsums.raising import raised
from raisedsums.rows import done
from raisedsums.settling import settled
from raisedsums.sums import added, can_be_handed_in, degrees, is_number_of_letters, multiplied
from raisedsums.texts import read_number, read_rows, read_sum, show_counts, show_rows, show_sum
from raisedsums.turning import turned

SMALL_LETTERS = "abcdefghijklmnopqrstuvwxyz"
LONGEST_NAME = 8
MOST_NAMES = 8
MOST_ROWS = 12

# What stands behind each first word: NEW is any name, NAME one by which a sum is kept.
FORMS = {
    "let": ("NEW", "SUM"),
    "add": ("NEW", "NAME", "NAME"),
    "multiply": ("NEW", "NAME", "NAME"),
    "raise": ("NEW", "NAME", "K"),
    "do": ("NEW", "NAME", "ROWS"),
    "halve": ("NEW", "NAME"),
    "drop": ("NAME",),
    "undo": (),
    "show": ("NAME",),
    "degrees": ("NAME",),
    "judge": ("NAME",),
    "settle": ("ROWS",),
    "turn": ("ROWS",),
    "counts": ("ROWS",),
    "need": ("ROWS",),
    "stand": ("K",),
    "names": (),
}
TO_THE_END = ("SUM", "ROWS")


def is_name(word):
    return 1 <= len(word) <= LONGEST_NAME and all([sign in SMALL_LETTERS for sign in word])


def fits_kind(kind, word):
    if kind in TO_THE_END:
        return True
    return read_number(word) is not None if kind == "K" else is_name(word)


def first_word(text):
    if not isinstance(text, str):
        raise NoLine("a desk is told texts")
    word = text.split(" ", 1)[0]
    if word not in FORMS:
        raise NoLine("a desk knows no such first word")
    return word


def words_behind(text, form):
    # What is read to the end keeps its blanks, so no more is parted than the form has words.
    if form and form[-1] in TO_THE_END:
        words = text.split(" ", len(form))[1:]
    else:
        words = text.split(" ")[1:]
    if len(words) != len(form):
        raise NoLine("too few words or too many")
    if not all([fits_kind(kind, word) for kind, word in zip(form, words)]):
        raise NoLine("a name has one to eight small letters, a number one or two figures")
    return words


def rows_told(text):
    rows = read_rows(text)
    if len(rows) > MOST_ROWS:
        raise NoText("a desk takes at most twelve rows")
    return rows


def word_read(n, kind, word):
    if kind == "SUM":
        return read_sum(n, word)
    if kind == "ROWS":
        return rows_told(word)
    return read_number(word) if kind == "K" else word


def sum_made(word, values):
    if word == "let":
        return values[0]
    if word == "add":
        return added(values[0], values[1])
    if word == "multiply":
        return multiplied(values[0], values[1])
    if word == "raise":
        return raised(values[0], values[1])
    if word == "do":
        return done(values[1], values[0])
    return halved(values[0])


def show_words(words):
    return " ".join(words) if words else "none"


def show_judged(paper):
    if paper[0] == "not":
        return "not " + show_sum(paper[3])
    return "\n".join(["raised"] + [f"{k} " + show_sum(some) for k, some in paper[3]])


def show_need(rows):
    told = need(counts_of(rows))
    return "none" if told is None else str(told)


def answer_of_rows(word, rows):
    if word == "settle":
        return show_rows(settled(rows))
    if word == "turn":
        return show_rows(turned(rows))
    if word == "counts":
        return show_counts(counts_of(rows))
    return show_need(rows)


def answer(n, word, value):
    if word == "show":
        return show_sum(value)
    if word == "degrees":
        return show_words([str(d) for d in degrees(value)])
    if word == "judge":
        return show_judged(judged(n, value))
    if word == "stand":
        return show_words([show_sum((product,)) for product in standing(n, value)])
    return answer_of_rows(word, value)


class Desk:
    def __init__(self, n):
        if not is_number_of_letters(n):
            raise NoLetters("a desk is made for one to ten letters")
        self.n = n
        self.kept = {}
        self.deeds = []

    def say(self, text):
        word = first_word(text)
        form = FORMS[word]
        words = words_behind(text, form)
        values = self.meant(form, words)
        if word == "undo":
            return self.take_back()
        if word == "names":
            return show_words(sorted(self.kept))
        if word == "drop":
            return self.change(words[0], None)
        if form[0] == "NEW":
            return self.keep(words[0], sum_made(word, values[1:]))
        return answer(self.n, word, values[0])

    def meant(self, form, words):
        # All texts are read ahead of looking for names: NoText comes ahead of NoName.
        told = [word_read(self.n, kind, word) for kind, word in zip(form, words)]
        return [self.found(value) if kind == "NAME" else value for kind, value in zip(form, told)]

    def found(self, name):
        if name not in self.kept:
            raise NoName("nothing is kept by this name")
        return self.kept[name]

    def keep(self, name, some):
        if not can_be_handed_in(self.n, some):
            raise TooMany("a sum that is kept has fewer products, of lesser degrees")
        if name not in self.kept and len(self.kept) == MOST_NAMES:
            raise Full("sums are kept by at most eight names")
        return self.change(name, some)

    def change(self, name, some):
        self.deeds.append((name, self.kept.get(name)))
        return self.set_kept(name, some)

    def set_kept(self, name, some):
        # None where nothing is kept by the name from now on.
        if some is None:
            self.kept.pop(name)
        else:
            self.kept[name] = some
        return "ok"

    def take_back(self):
        if not self.deeds:
            raise NoDeed("nothing is left to take back")
        last = self.deeds.pop()
        return self.set_kept(last[0], last[1])
