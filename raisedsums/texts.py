"""Sums, sums of rows and sums of counts as texts, and back."""

from raisedsums.counting import are_counts
from raisedsums.errors import NoText
from raisedsums.rows import are_rows
from raisedsums.sums import is_sum

LETTERS = "abcdefghij"
FIGURES = "0123456789"
MOST_FIGURES = 2
BETWEEN = " + "
NOTHING = "0"


def show_letter(letter, e):
    if e == 0:
        return ""
    return letter if e == 1 else f"{letter}{e}"


def show_product(product):
    told = "".join([show_letter(letter, e) for letter, e in zip(LETTERS, product)])
    return told if told else "1"


def show_numbers(numbers, between):
    return between.join([str(number) for number in numbers]) if numbers else "-"


def show_all(texts):
    return BETWEEN.join(texts) if texts else NOTHING


def show_sum(some):
    return show_all([show_product(product) for product in some])


def show_rows(rows):
    return show_all([show_numbers(row, ".") for row in rows])


def show_counts(counts):
    return show_all([show_numbers(numbers, ",") for numbers in counts])


def figures_ahead(text):
    told = ""
    for sign in text:
        if sign not in FIGURES:
            break
        told += sign
    return told


def read_number(text):
    # None of what is no number of one or two figures, a nought ahead of another figure among it.
    if not 1 <= len(text) <= MOST_FIGURES or figures_ahead(text) != text:
        return None
    return int(text) if str(int(text)) == text else None


def read_exponent(figures):
    return read_number(figures) if figures else 1


def read_product(n, text):
    if text == "1":
        return (0,) * n
    told = []
    for letter in LETTERS[:n]:
        e = 0
        if text.startswith(letter):
            figures = figures_ahead(text[1:])
            text = text[1 + len(figures):]
            e = read_exponent(figures)
        told.append(e)
    return tuple(told) if text == "" else None


def read_numbers(text, between):
    if text == "-":
        return ()
    return tuple([read_number(figures) for figures in text.split(between)])


def texts_of(text):
    if not isinstance(text, str):
        raise NoText("what is read is a text")
    return text.split(BETWEEN) if text != NOTHING else []


# What can't be read is None here, and so no sum; what was read otherwise than it is
# written (`a1`, or nothing at all in the place of `1`) shows when it is written again.
def read_sum(n, text):
    told = tuple([read_product(n, one) for one in texts_of(text)])
    if not is_sum(n, told) or show_sum(told) != text:
        raise NoText("this text is not how a sum of so many letters is written")
    return told


def read_rows(text):
    told = tuple([read_numbers(one, ".") for one in texts_of(text)])
    if not are_rows(told) or show_rows(told) != text:
        raise NoText("this text is not how a sum of rows is written")
    return told


def read_counts(text):
    told = tuple([read_numbers(one, ",") for one in texts_of(text)])
    if not are_counts(told) or show_counts(told) != text:
        raise NoText("this text is not how a sum of counts is written")
    return told
