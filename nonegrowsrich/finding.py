"""Finding: shares that are right in a house, wherever some are.

All shares are parted into cells until the pulls over a cell are straight; cells that surely hold none are left aside.
"""

from nonegrowsrich.bends import central
from nonegrowsrich.cells import faces, parted, shares_in, signs_on
from nonegrowsrich.forms import less_form, short_form
from nonegrowsrich.pulls import gaps, pulls_of, settled_pulls


def may_hold(pulls, cell):
    """Whether the cell may hold right shares: no sign with shares is surely below another all over it."""
    return all([high >= 0 for sign in signs_on(cell) for low, high in gaps(pulls, sign, cell)])


def right_parts(pulls, cell):
    """The cells that together are all right shares in a cell that the pulls are straight over."""
    present = signs_on(cell)
    first = present[0]
    form, terms = pulls[first]
    found = [cell]
    for sign, (other, others) in enumerate(pulls):
        difference = short_form(less_form(form, other))
        wanted = (0,) if sign in present else (0, 1)
        found = [part for part_cell in found for side, part in parted(part_cell, difference) if side in wanted]
    return found


def find(house):
    """Right shares; None where none are."""
    many, members = house
    pulls = pulls_of(house)
    rest = [(cell, pulls) for cell in faces(many)]
    while rest:
        cell, wide = rest.pop()
        near, lines = settled_pulls(wide, cell)
        if not may_hold(near, cell):
            continue
        if lines:
            rest.extend([(part, near) for side, part in parted(cell, central(lines, cell))])
            continue
        found = right_parts(near, cell)
        if found:
            return shares_in(found[0])
    return None
