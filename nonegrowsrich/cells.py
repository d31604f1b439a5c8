"""Cells: convex parts of all shares, each without its border.

A cell is the tuple of its corners, rows of numbers as shares are: of one corner it is that point alone, of two all
between both, of three and more, as they stand around it, all inside. A cell that a form does not cross lies below 0,
at 0 or above 0 by the form, and all of it does: its shares are made of all its corners, each with some weight.
"""

from nonegrowsrich.forms import form_at, scale_form, sum_form
from nonegrowsrich.shares import lowest


def corner_of(sign, many):
    """The shares that are the sign's alone."""
    return tuple([1 if place == sign else 0 for place in range(many)])


def faces(many):
    """The cells that together are all shares, each all those of the same signs alone; those of fewer signs ahead."""
    found = [()]
    for sign in range(many):
        found = found + [face + (corner_of(sign, many),) for face in found]
    return sorted([face for face in found if face], key=len)


def signs_on(cell):
    """The signs whose shares are above 0 on the cell."""
    return [sign for sign in range(len(cell[0])) if any([corner[sign] > 0 for corner in cell])]


def shares_in(cell):
    """Shares in the cell."""
    return lowest(tuple([sum([corner[sign] for corner in cell]) for sign in range(len(cell[0]))]))


def heights_on(cell, form):
    """The form's worths at the corners."""
    return [form_at(form, corner) for corner in cell]


def side_of(low, high):
    """The side of a cell by the least and the greatest of its corners' heights; None where it is crossed."""
    if low < 0 < high:
        return None
    if low < 0:
        return -1
    return 1 if high > 0 else 0


def side_on(cell, form):
    """-1, 0 or 1 where the form is below 0, 0 or above 0 all along the cell; None where it crosses it."""
    heights = heights_on(cell, form)
    return side_of(min(heights), max(heights))


def meeting(first, second):
    """The shares between two corners, each (height, corner), that a form of these heights is 0 at."""
    height, corner = first
    other_height, other_corner = second
    return lowest(sum_form(scale_form(abs(other_height), corner), scale_form(abs(height), other_corner)))


def crossed_ring(cell, heights):
    """(height, corner) around a cell, with those between them that the form is 0 at."""
    corners = list(zip(heights, cell))
    # Of two corners there is but one way from one to the other.
    ways = corners[1:] + corners[:1] if len(cell) > 2 else corners[1:] + corners[-1:]
    ring = []
    for near, far in zip(corners, ways):
        ring.append(near)
        if near[0] * far[0] < 0:
            ring.append((0, meeting(near, far)))
    return ring


def parted(cell, form):
    """(side, cell) of the cells that the form parts the cell into."""
    heights = heights_on(cell, form)
    side = side_of(min(heights), max(heights))
    if side is not None:
        return [(side, cell)]
    ring = crossed_ring(cell, heights)
    return [
        (-1, tuple([corner for height, corner in ring if height <= 0])),
        (0, tuple([corner for height, corner in ring if height == 0])),
        (1, tuple([corner for height, corner in ring if height >= 0])),
    ]
