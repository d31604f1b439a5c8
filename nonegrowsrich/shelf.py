"""A shelf of doubters for plain rules of chance, and how far told shares missed what came."""

from nonegrowsrich.doubters import GREATEST_SCALE
from nonegrowsrich.shares import lowest

ZERO = (0, 0, 0, 0)
NO_STAKE = ("fig", 0)
AFTER_STAKE = 100


def stakes_on(many, sign, stake):
    """The stake on the sign, and none on the others."""
    return tuple([stake if place == sign else NO_STAKE for place in range(many)])


def tent(many, sign, centre, wide, side):
    """A doubter that stakes for or against the sign where its share is near to centre, most where it is just there."""
    rise = ("sum", ("fig", wide - centre), ("share", sign))
    fall = ("sum", ("fig", wide), ("less", ("fig", centre), ("share", sign)))
    # Both slopes together never pass wide; it is named for the span, which tells the bound.
    roof = ("least", ("fig", wide), ("least", rise, fall))
    stake = ("times", side, ("most", NO_STAKE, roof))
    return ("tent", 0, ZERO, stakes_on(many, sign, stake), ((),) * many)


def mean_stakes(many):
    """Stakes on each sign by what its register is above its share."""
    return tuple([("less", ("reg", sign), ("share", sign)) for sign in range(many)])


def rival(many, told):
    """A doubter that holds the told thousandths to be right each day."""
    begins = told + ZERO[many:]
    return ("rival", GREATEST_SCALE, begins, mean_stakes(many), ((),) * many)


def after(many, sign, then, side):
    """A doubter that stakes for or against then on each day behind one on which the sign came."""
    stake = ("when", 0, 1, NO_STAKE, ("fig", side * AFTER_STAKE))
    behinds = tuple([(("put", 0, 1 if place == sign else 0),) for place in range(many)])
    return ("after", 0, ZERO, stakes_on(many, then, stake), behinds)


def lagging(many):
    """A doubter that holds to be right what was told the day ahead."""
    told = tuple([("told", sign, sign) for sign in range(many)])
    return ("lagging", GREATEST_SCALE, ZERO, mean_stakes(many), (told,) * many)


def add_miss(total, row, sign):
    """The fraction (up, down) with what the row, by its sum, missed the sign by added to it."""
    up, down = total
    whole = sum(row)
    squares = sum([number * number for number in row])
    miss = whole * whole - 2 * whole * row[sign] + squares
    return lowest((up * whole * whole + miss * down, down * whole * whole))


def misses(rows, many):
    """(up, down): how far the told shares missed the signs, the sum of all squares, of so many signs."""
    total = (0, 1)
    for shares, sign in rows:
        total = add_miss(total, shares, sign)
    return total


def rival_misses(rows, told):
    """(up, down): how far the told thousandths would have missed the signs each day."""
    return misses(tuple([(told, sign) for shares, sign in rows]), len(told))
