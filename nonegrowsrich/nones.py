"""Nones: trees by which whoever chooses the signs answers all shares, where none are right.

A piece is (cell, pulls, lines, signs): a cell with the pulls over it, the lines that part them there, and the signs
that surely answer all of it.
"""

from nonegrowsrich.bends import central
from nonegrowsrich.cells import corner_of, faces, parted, side_on, signs_on
from nonegrowsrich.expressions import first_word
from nonegrowsrich.finding import find
from nonegrowsrich.forms import form_at, less_form, scale_form, short_form
from nonegrowsrich.pulls import answering, answers, gaps, pulls_of, settled_pulls
from nonegrowsrich.shares import is_number, is_within


def answer(tree, shares):
    """The sign that the tree comes to at the shares."""
    while tree[0] == "cut":
        word, form, low, high = tree
        tree = low if form_at(form, shares) < 0 else high
    return tree[1]


def piece_of(cell, pulls):
    """The piece of a cell, by pulls over it that may be settled further."""
    near, lines = settled_pulls(pulls, cell)
    return (cell, near, lines, answering(near, cell))


def piece_parts(piece, form):
    """(side, piece) of the pieces that the form parts the piece into."""
    cell, pulls, lines, signs = piece
    sides = parted(cell, form)
    if len(sides) == 1:
        return [(sides[0][0], piece)]
    return [(side, piece_of(part, pulls)) for side, part in sides]


def halves(pieces, form):
    """(low, high): all pieces below 0 by the form, and all others, each parted where the form crosses it."""
    found = [pair for piece in pieces for pair in piece_parts(piece, form)]
    return ([piece for side, piece in found if side < 0], [piece for side, piece in found if side >= 0])


def shared_signs(pieces):
    """The signs that answer all of the pieces."""
    return [sign for sign in pieces[0][3] if all([sign in signs for cell, pulls, lines, signs in pieces])]


def parting_line(piece):
    """A form that crosses a piece that no sign is known to answer all of."""
    cell, pulls, lines, signs = piece
    if lines:
        return central(lines, cell)
    forms = [form for form, terms in pulls]
    differences = [less_form(form, other) for form in forms for other in forms]
    return central([form for form in differences if side_on(cell, form) is None], cell)


def mark_worth(pieces, mark):
    """How many of the halves that the mark parts the pieces into one sign answers; -1 where a half is empty."""
    low, high = halves(pieces, mark)
    if not low or not high:
        return -1
    return len([half for half in (low, high) if shared_signs(half)])


def cutting_form(pieces, marks):
    """The form to cut pieces by that no sign answers all of."""
    unknown = [piece for piece in pieces if not piece[3]]
    if unknown:
        return short_form(parting_line(max(unknown, key=lambda piece: len(piece[2]))))
    return max(marks, key=lambda mark: mark_worth(pieces, mark))


def tree_of(pieces, marks):
    """A tree that answers all of the pieces; marks tell apart any two of them that are both known to be answered."""
    signs = shared_signs(pieces)
    if signs:
        return ("sign", signs[0])
    form = cutting_form(pieces, marks)
    low, high = halves(pieces, form)
    # Above a cut stand the pieces at 0 and those above 0 together: its opposite tells these apart.
    more = marks + [scale_form(-1, form)]
    return ("cut", form, tree_of(low, marks), tree_of(high, more))


def none_paper(house):
    """A tree that answers all shares; None where some are right."""
    if find(house) is not None:
        return None
    many, members = house
    pulls = pulls_of(house)
    marks = [scale_form(-1, corner_of(sign, many)) for sign in range(many)]
    return tree_of([piece_of(cell, pulls) for cell in faces(many)], marks)


def is_form(thing, many):
    """Whether it is a form of so many signs, of anything."""
    return isinstance(thing, tuple) and len(thing) == many and all([is_number(number) for number in thing])


def is_knot(thing, many):
    """Whether it is a sign or a cut of a tree, what the cut leads to left aside, of anything."""
    word = first_word(thing)
    if word == "sign":
        return len(thing) == 2 and is_within(thing[1], 0, many - 1)
    return word == "cut" and len(thing) == 4 and is_form(thing[1], many)


def is_tree(thing, many):
    """Whether it is a tree of so many signs, of anything."""
    rest = [thing]
    while rest:
        knot = rest.pop()
        if not is_knot(knot, many):
            return False
        rest.extend(knot[2:])
    return True


def sign_answers(sign, cell, pulls):
    """Whether the sign answers all shares in the cell."""
    rest = [(cell, pulls)]
    while rest:
        here, wide = rest.pop()
        near, lines = settled_pulls(wide, here)
        row = gaps(near, sign, here)
        if answers(row, signs_on(here), not lines):
            continue
        if not lines or any([high < 0 for low, high in row]):
            return False
        rest.extend([(part, near) for side, part in parted(here, central(lines, here))])
    return True


def shows_none(house, thing):
    """Whether it is a tree that answers all shares, of anything."""
    many, members = house
    if not is_tree(thing, many):
        return False
    pulls = pulls_of(house)
    rest = [(thing, cell) for cell in faces(many)]
    while rest:
        tree, cell = rest.pop()
        if tree[0] == "cut":
            word, form, low, high = tree
            rest.extend([(low if side < 0 else high, part) for side, part in parted(cell, form)])
        elif not sign_answers(tree[1], cell, pulls):
            return False
    return True
