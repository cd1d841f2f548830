"""How a row that is said to a desk is read into its words and numbers.

A form is a row with NAME, NUMBER and TEXT in the place of what is told there; each other word stands for itself.
"""

from cornerpiles.errors import NoRow
from cornerpiles.texts import is_written_number

LETTERS = "abcdefghijklmnopqrstuvwxyz"
MOST_LETTERS = 8
MOST_FIGURES = 6


def is_name(word):
    return 1 <= len(word) <= MOST_LETTERS and all([sign in LETTERS for sign in word])


def is_word_of(kind, word):
    if kind == "NAME":
        return is_name(word)
    if kind == "NUMBER":
        return is_written_number(word, MOST_FIGURES)
    return kind == "TEXT" or word == kind


def value_of(kind, word):
    return int(word) if kind == "NUMBER" else word


# The last word is all that is left, as a TEXT may hold blanks; no word of another kind does.
def words_by_form(row, form):
    return row.split(" ", form.count(" "))


def has_form(row, form):
    kinds = form.split(" ")
    words = words_by_form(row, form)
    return len(words) == len(kinds) and all([is_word_of(kind, word) for kind, word in zip(kinds, words)])


def form_of(row, forms):
    if isinstance(row, str):
        for form in forms:
            if has_form(row, form):
                return form
    raise NoRow("this is no row of the desk")


# The form that the row has, and what is told behind its first word.
def read_row(row, forms):
    form = form_of(row, forms)
    values = [value_of(kind, word) for kind, word in zip(form.split(" "), words_by_form(row, form))]
    return (form, values[1:])
