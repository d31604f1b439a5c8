"""Jumps: whether a where word's parts are unlike at some shares on its line.

Along a line an expression is made of straight pieces, so each of them is weighed as a whole. A cell is a pair of
shares: all shares between both, or, where both are the same, these alone. A form is a number for each sign; its worth
at shares is the sum of its numbers times theirs.
"""

from nonegrowsrich.expressions import led_part, parts, worth
from nonegrowsrich.shares import is_number, is_shares, lowest


def where_words(expression, registers, met=True):
    """(where word, whether it is met) of each where word, in the order of their numbers."""
    words = [(expression, met)] if expression[0] == "where" else []
    inside = parts(expression)
    mets = [met for part in inside]
    if expression[0] == "when":
        # Both parts may be written alike, so which one is met can't be told by the part led to.
        leads_ahead = registers[expression[1]] < expression[2]
        mets = [met and leads_ahead, met and not leads_ahead]
    for part, part_met in zip(inside, mets):
        words.extend(where_words(part, registers, part_met))
    return words


def form_at(form, shares):
    """The form's worth at the shares."""
    return sum([weight * number for weight, number in zip(form, shares)])


def scale_form(factor, form):
    """The form, each number times the factor."""
    return tuple([factor * weight for weight in form])


def less_form(first, second):
    """The first form without the second."""
    return tuple([one - other for one, other in zip(first, second)])


def sum_form(first, second):
    """Both forms together."""
    return tuple([one + other for one, other in zip(first, second)])


def between(cell, near, far):
    """The shares inside a cell that part it by these two weights of its ends, both above 0."""
    low, high = cell
    return lowest(sum_form(scale_form(near, low), scale_form(far, high)))


def split_cell(cell, form):
    """The cell in cells on each of which the form is below 0, is 0 or is above 0 all along."""
    low, high = cell
    at_low = form_at(form, low)
    at_high = form_at(form, high)
    if at_low * at_high >= 0:
        return [cell]
    middle = between(cell, abs(at_high), abs(at_low))
    return [(low, middle), (middle, middle), (middle, high)]


def is_below(cell, form):
    """Whether the form is below 0 on the cell, where it has one sign all along."""
    low, high = cell
    # One end may lie on the form's own line without being inside the cell, so both are asked.
    return form_at(form, low) + form_at(form, high) < 0


def flat_form(figure, many):
    """The form that is worth figure by n at all shares."""
    return (figure,) * many


def share_form(sign, many):
    """The form that is worth 1000 times the sign's number."""
    return tuple([1000 if place == sign else 0 for place in range(many)])


def straight_form(expression, registers, many):
    """The form of an expression without parts."""
    word, figure = expression
    if word == "share":
        return share_form(figure, many)
    return flat_form(registers[figure] if word == "reg" else figure, many)


def where_pieces(expression, registers, cell):
    """The pieces of a where word on the cell."""
    word, sign, line, first, second = expression
    many = len(cell[0])
    side = less_form(share_form(sign, many), flat_form(line, many))
    found = []
    for part_cell in split_cell(cell, side):
        part = first if is_below(part_cell, side) else second
        found.extend(pieces(part, registers, part_cell))
    return found


def piece_pairs(first, second, registers, cell):
    """(cell, form of the first, form of the second) of cells that together are the cell."""
    return [
        (small, form, other)
        for large, form in pieces(first, registers, cell)
        for small, other in pieces(second, registers, large)
    ]


def bent_pieces(word, cell, first, second):
    """The pieces of the least or the most of two forms on the cell."""
    difference = less_form(first, second)
    lesser_asked = word == "least"
    found = []
    for part_cell in split_cell(cell, difference):
        first_taken = is_below(part_cell, difference) == lesser_asked
        found.append((part_cell, first if first_taken else second))
    return found


def join_pieces(word, cell, first, second):
    """The pieces of a word of two parts alone, by their forms on the cell."""
    if word == "sum":
        return [(cell, sum_form(first, second))]
    if word == "less":
        return [(cell, less_form(first, second))]
    return bent_pieces(word, cell, first, second)


def pieces(expression, registers, cell):
    """(cell, form) of cells that together are the cell: on each the expression is worth the form."""
    word = expression[0]
    if word in ("fig", "reg", "share"):
        return [(cell, straight_form(expression, registers, len(cell[0])))]
    if word in ("times", "by"):
        factor = expression[1] if word == "times" else registers[expression[1]]
        inside = pieces(expression[2], registers, cell)
        return [(small, scale_form(factor, form)) for small, form in inside]
    if word == "when":
        return pieces(led_part(expression, registers), registers, cell)
    if word == "where":
        return where_pieces(expression, registers, cell)
    found = []
    for small, first, second in piece_pairs(expression[1], expression[2], registers, cell):
        found.extend(join_pieces(word, small, first, second))
    return found


def line_end(sign, line, other, many):
    """The shares on a where word's line at which all that the sign leaves is the other sign's."""
    row = [0] * many
    row[sign] = line
    row[other] = 1000 - line
    return lowest(tuple(row))


def line_cells(sign, line, many):
    """The cells that together are all shares with 1000 times the sign's number just line times n."""
    ends = [line_end(sign, line, other, many) for other in range(many) if other != sign]
    low, high = ends[0], ends[-1]
    if low == high:
        return [(low, low)]
    return [(low, low), (low, high), (high, high)]


def unlike_shares(cell, first, second):
    """Shares in the cell at which both forms are unlike; None where there are none."""
    difference = less_form(first, second)
    # A form that is 0 at two shares of a cell is 0 all along it.
    for near in (1, 2):
        shares = between(cell, near, 1)
        if form_at(difference, shares) != 0:
            return shares
    return None


def jump_shares(where, registers, many):
    """Shares at which the where word jumps; None where it jumps at none."""
    word, sign, line, first, second = where
    for cell in line_cells(sign, line, many):
        for small, form, other in piece_pairs(first, second, registers, cell):
            shares = unlike_shares(small, form, other)
            if shares is not None:
                return shares
    return None


def jump(expression, registers, many):
    """(number, shares): a met where word and shares at which it jumps; None where none jumps anywhere."""
    for number, (where, met) in enumerate(where_words(expression, registers)):
        shares = jump_shares(where, registers, many) if met else None
        if shares is not None:
            return (number, shares)
    return None


def is_even(expression, registers, many):
    """Whether no met where word of the expression jumps at any shares."""
    return jump(expression, registers, many) is None


def jumps_at(where, registers, shares):
    """Whether the where word jumps at the shares."""
    word, sign, line, first, second = where
    if 1000 * shares[sign] != line * sum(shares):
        return False
    return worth(first, registers, shares) != worth(second, registers, shares)


def shows_jump(expression, registers, many, thing):
    """Whether it is (number, shares) of a met where word and shares at which it jumps, of anything."""
    if not isinstance(thing, tuple) or len(thing) != 2:
        return False
    number, shares = thing
    words = where_words(expression, registers)
    if not is_number(number) or not 0 <= number < len(words):
        return False
    where, met = words[number]
    return met and is_shares(shares, many) and jumps_at(where, registers, shares)
