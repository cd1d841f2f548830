"""Piles and boxes written and read back, and pictures of piles."""

from cornerpiles.errors import NoText
from cornerpiles.piles import is_box, is_pile, must_be_box, must_be_pile

FIGURES = "0123456789"
MOST_FIGURES = 2
SIGNS_OF_HEIGHTS = ".123456789abcdefghijklmnopqrstuvwxyz"


# Asked sign by sign: Python takes figures of other scripts for digits too, and blanks and signs round a number.
def is_written_number(text, most_figures):
    if not 1 <= len(text) <= most_figures:
        return False
    if not all([sign in FIGURES for sign in text]):
        return False
    return len(text) == 1 or text[0] != "0"


def show_numbers(numbers, parting):
    return parting.join([str(number) for number in numbers])


def read_numbers(text, parting):
    words = text.split(parting)
    if not all([is_written_number(word, MOST_FIGURES) for word in words]):
        raise NoText("a number has one or two figures, the first no 0 of two")
    return [int(word) for word in words]


def must_be_text(thing):
    if not isinstance(thing, str):
        raise NoText("this is no text")


def show_pile(box, pile):
    must_be_pile(box, pile)
    return "/".join([show_numbers(row, " ") for row in pile])


def show_box(box):
    must_be_box(box)
    return show_numbers(box, "x")


def read_pile(box, text):
    must_be_box(box)
    must_be_text(text)
    pile = [read_numbers(row, " ") for row in text.split("/")]
    if not is_pile(box, pile):
        raise NoText("this writes no pile of the box")
    return pile


def read_box(text):
    must_be_text(text)
    box = tuple(read_numbers(text, "x"))
    if not is_box(box):
        raise NoText("this writes no box")
    return box


def picture(box, pile):
    must_be_pile(box, pile)
    return "\n".join(["".join([SIGNS_OF_HEIGHTS[height] for height in row]) for row in pile])
