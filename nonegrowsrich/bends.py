"""Bends: expressions by given registers, made ready to be followed over cells.

A bend is ("straight", form); ("sum", A, B), ("least", A, B), ("most", A, B), A and B bends; ("times", factor, A); or
("where", side, A, B), A where the form side is below 0, else B. Over a small enough cell it is straight.
"""

from nonegrowsrich.cells import heights_on, side_on
from nonegrowsrich.expressions import join_spans, led_part
from nonegrowsrich.forms import flat_form, less_form, scale_form, share_form, sum_form

# Reaches are told in so fine parts of a thousandth, rounded outward.
FINE = 2 ** 30


def straight_form(expression, registers, many):
    """The form of an expression without parts."""
    word, figure = expression
    if word == "share":
        return share_form(figure, many)
    return flat_form(registers[figure] if word == "reg" else figure, many)


def scaled(factor, bend):
    """The bend times the factor."""
    if bend[0] == "straight":
        return ("straight", scale_form(factor, bend[1]))
    return ("times", factor, bend)


def paired(word, first, second):
    """The bend of a word of two parts alone."""
    if word == "less":
        return paired("sum", first, scaled(-1, second))
    if word == "sum" and first[0] == "straight" and second[0] == "straight":
        return ("straight", sum_form(first[1], second[1]))
    return (word, first, second)


def bend_of(expression, registers, many):
    """The bend that is worth what the expression is, by the registers."""
    word = expression[0]
    if word in ("fig", "reg", "share"):
        return ("straight", straight_form(expression, registers, many))
    if word == "when":
        return bend_of(led_part(expression, registers), registers, many)
    if word in ("times", "by"):
        factor = expression[1] if word == "times" else registers[expression[1]]
        if factor == 0:
            return ("straight", flat_form(0, many))
        return scaled(factor, bend_of(expression[2], registers, many))
    first = bend_of(expression[-2], registers, many)
    second = bend_of(expression[-1], registers, many)
    if word == "where":
        side = less_form(share_form(expression[1], many), flat_form(expression[2], many))
        return ("where", side, first, second)
    return paired(word, first, second)


def settled_where(bend, cell):
    """As settled, of a where."""
    word, side, first, second = bend
    lies = side_on(cell, side)
    if lies is None:
        return (bend, [side])
    return settled(first if lies < 0 else second, cell)


def settled_choice(word, first, second, cell):
    """As settled, of the least or the most of two straight bends."""
    difference = less_form(first[1], second[1])
    lies = side_on(cell, difference)
    if lies is None:
        return ((word, first, second), [difference])
    return (first if (lies < 0) == (word == "least") else second, [])


def settled(bend, cell):
    """(bend, lines): the bend as it is over the cell, straight where no lines are left that part it there."""
    word = bend[0]
    if word == "straight":
        return (bend, [])
    if word == "where":
        return settled_where(bend, cell)
    if word == "times":
        inner, lines = settled(bend[2], cell)
        return (scaled(bend[1], inner), lines)
    first, lines = settled(bend[1], cell)
    second, more = settled(bend[2], cell)
    if word != "sum" and first[0] == "straight" and second[0] == "straight":
        return settled_choice(word, first, second, cell)
    return (paired(word, first, second), lines + more)


def fine_heights(form, cell):
    """The form's worths by n at the corners, in fine parts, rounded down."""
    return [height * FINE // sum(corner) for height, corner in zip(heights_on(cell, form), cell)]


def scaled_ends(factor, ends):
    """Both ends times the factor, the lesser ahead."""
    low, high = ends
    return (min(factor * low, factor * high), max(factor * low, factor * high))


def reach(bend, cell):
    """(low, high), in fine parts, that the bend's worth by n stays within over the cell."""
    word = bend[0]
    if word == "straight":
        heights = fine_heights(bend[1], cell)
        return (min(heights), max(heights) + 1)
    if word == "times":
        return scaled_ends(bend[1], reach(bend[2], cell))
    return join_spans(word, reach(bend[-2], cell), reach(bend[-1], cell))


def off_centre(form, cell):
    """(how far, of what): how far off the middle of the cell the form crosses it."""
    heights = fine_heights(form, cell)
    return (abs(sum(heights)), sum([abs(height) for height in heights]))


def central(lines, cell):
    """The line that crosses the cell nearest to its middle, roughly."""
    best = lines[0]
    least, whole = off_centre(best, cell)
    for line in lines[1:]:
        far, size = off_centre(line, cell)
        if far * whole < least * size:
            best, least, whole = line, far, size
    return best
