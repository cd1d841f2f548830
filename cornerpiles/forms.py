"""Even, whole and round piles, how many of each a box has, and the forms of a pile."""

from cornerpiles.between import rows_behind
from cornerpiles.counts import count_by_product
from cornerpiles.errors import TooMany
from cornerpiles.moves import copy_of
from cornerpiles.piles import mirrored_pile, must_be_box, must_be_pile, rest_of, rolled_pile
from cornerpiles.tables import rows_of_heights

MOST_PILES = 3000


def is_even(box, pile):
    must_be_pile(box, pile)
    return box[0] == box[1] and mirrored_pile(box, pile) == pile


def is_whole(box, pile):
    return rest_of(box, pile) == pile


def is_round(box, pile):
    must_be_pile(box, pile)
    return box[0] == box[1] == box[2] and rolled_pile(box, pile) == pile


# Cube after cube put on leads from the empty pile to the full one, so there are more piles than cubes in the box:
# where these are too many already, the product, which would be long, is not needed.
def must_have_few_piles(box):
    must_be_box(box)
    rows, columns, height = box
    if rows * columns * height >= MOST_PILES or count_by_product(box) > MOST_PILES:
        raise TooMany(f"the box has more than {MOST_PILES} piles")


def longer_by_a_row(pile, lines, box):
    ahead = pile[-1] if len(pile) > 0 else [box[2]] * box[1]
    return [pile + [list(line)] for line in rows_behind(lines, ahead)]


def all_piles_of(box):
    lines = rows_of_heights(box[1], box[2])
    piles = [[]]
    for i in range(box[0]):
        longer = []
        for pile in piles:
            longer.extend(longer_by_a_row(pile, lines, box))
        piles = longer
    return piles


def how_many_even(box):
    must_have_few_piles(box)
    if box[0] != box[1]:
        return 0
    return len([pile for pile in all_piles_of(box) if is_even(box, pile)])


# Mirrored or rolled, a whole pile is whole too. So the box is turned to have few rows and columns, which makes
# its piles short to go through.
def how_many_whole(box):
    must_have_few_piles(box)
    turned = tuple(sorted(box))
    return len([pile for pile in all_piles_of(turned) if is_whole(turned, pile)])


def how_many_round(box):
    must_have_few_piles(box)
    if not box[0] == box[1] == box[2]:
        return 0
    return len([pile for pile in all_piles_of(box) if is_round(box, pile)])


def mirrored_form(form):
    box, pile = form
    rows, columns, height = box
    return ((columns, rows, height), mirrored_pile(box, pile))


def rolled_form(form):
    box, pile = form
    rows, columns, height = box
    return ((columns, height, rows), rolled_pile(box, pile))


def forms_of(box, pile):
    must_be_pile(box, pile)
    form = (box, copy_of(pile))
    forms = []
    for first in [form, mirrored_form(form)]:
        once = rolled_form(first)
        for other in [first, once, rolled_form(once)]:
            if other not in forms:
                forms.append(other)
    return sorted(forms)


def alike_in_form(box, pile, other_box, other):
    must_be_box(box)
    must_be_box(other_box)
    must_be_pile(box, pile)
    must_be_pile(other_box, other)
    return (other_box, other) in forms_of(box, pile)
