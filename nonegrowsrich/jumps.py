"""Jumps: whether a where word's parts are unlike at some shares on its line.

Along a line an expression is made of straight pieces, so each of them is weighed as a whole.
"""

from nonegrowsrich.bends import bend_of, central, settled
from nonegrowsrich.cells import parted, shares_in
from nonegrowsrich.expressions import parts, worth
from nonegrowsrich.shares import is_number, is_shares, lowest


def where_words(expression, registers, met=True):
    """(where word, whether it is met) of each where word, in the order of their numbers."""
    words = [(expression, met)] if expression[0] == "where" else []
    inside = parts(expression)
    mets = [met for part in inside]
    if expression[0] == "when":
        # Both parts may be written alike, so which one is met can't be told by the part led to.
        leads_ahead = registers[expression[1]] < expression[2]
        mets = [met and leads_ahead, met and not leads_ahead]
    for part, part_met in zip(inside, mets):
        words.extend(where_words(part, registers, part_met))
    return words


def line_end(sign, line, other, many):
    """The shares on a where word's line at which all that the sign leaves is the other sign's."""
    row = [0] * many
    row[sign] = line
    row[other] = 1000 - line
    return lowest(tuple(row))


def line_cells(sign, line, many):
    """The cells that together are all shares with 1000 times the sign's number just line times n."""
    if not 0 <= line <= 1000:
        return []
    ends = [line_end(sign, line, other, many) for other in range(many) if other != sign]
    low, high = ends[0], ends[-1]
    if low == high:
        return [(low,)]
    return [(low,), (low, high), (high,)]


def some_off_zero(form, cell):
    """Shares in the cell at which the form is not 0; None where there are none."""
    for side, part in parted(cell, form):
        if side != 0:
            return shares_in(part)
    return None


def some_unlike(difference, cell):
    """Shares in the cell at which the bend is not 0; None where there are none."""
    rest = [(difference, cell)]
    while rest:
        bend, here = rest.pop()
        bend, lines = settled(bend, here)
        if lines:
            rest.extend([(bend, part) for side, part in parted(here, central(lines, here))])
            continue
        shares = some_off_zero(bend[1], here)
        if shares is not None:
            return shares
    return None


def jump_shares(where, registers, many):
    """Shares at which the where word jumps; None where it jumps at none."""
    word, sign, line, first, second = where
    difference = bend_of(("less", first, second), registers, many)
    for cell in line_cells(sign, line, many):
        shares = some_unlike(difference, cell)
        if shares is not None:
            return shares
    return None


def jump(expression, registers, many):
    """(number, shares): a met where word and shares at which it jumps; None where none jumps anywhere."""
    for number, (where, met) in enumerate(where_words(expression, registers)):
        shares = jump_shares(where, registers, many) if met else None
        if shares is not None:
            return (number, shares)
    return None


def is_even(expression, registers, many):
    """Whether no met where word of the expression jumps at any shares."""
    return jump(expression, registers, many) is None


def jumps_at(where, registers, shares):
    """Whether the where word jumps at the shares."""
    word, sign, line, first, second = where
    if 1000 * shares[sign] != line * sum(shares):
        return False
    return worth(first, registers, shares) != worth(second, registers, shares)


def shows_jump(expression, registers, many, thing):
    """Whether it is (number, shares) of a met where word and shares at which it jumps, of anything."""
    if not isinstance(thing, tuple) or len(thing) != 2:
        return False
    number, shares = thing
    words = where_words(expression, registers)
    if not is_number(number) or not 0 <= number < len(words):
        return False
    where, met = words[number]
    return met and is_shares(shares, many) and jumps_at(where, registers, shares)
