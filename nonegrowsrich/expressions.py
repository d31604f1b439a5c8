"""Expressions: what they are, what they are worth at shares, and how far and how crookedly they reach."""

from nonegrowsrich.shares import is_within

# What stands behind each word, in order; a "part" is an expression itself.
SHAPES = {
    "fig": ("figure",),
    "reg": ("place",),
    "share": ("sign",),
    "sum": ("part", "part"),
    "less": ("part", "part"),
    "times": ("factor", "part"),
    "by": ("place", "part"),
    "least": ("part", "part"),
    "most": ("part", "part"),
    "when": ("place", "figure", "part", "part"),
    "where": ("sign", "line", "part", "part"),
}

BOUNDS = {
    "figure": (-1000, 1000),
    "place": (0, 3),
    "factor": (-9, 9),
    "line": (1, 1000),
}

MOST_PARTS = 40
MOST_DEEP = 8
HOW_MANY_REGISTERS = 4


def fits(kind, thing, many):
    """Whether it may stand where a shape has that kind; parts are looked into elsewhere."""
    if kind == "part":
        return True
    low, high = (0, many - 1) if kind == "sign" else BOUNDS[kind]
    return is_within(thing, low, high)


def first_word(thing):
    """The text that a tuple begins with, of anything; None where it is no such tuple."""
    # A list or a dict could not be looked up in a table of words.
    if isinstance(thing, tuple) and thing and isinstance(thing[0], str):
        return thing[0]
    return None


def fits_shape(thing, shape, many):
    """Whether what stands behind a tuple's word is as the shape tells, its parts left aside."""
    if len(thing) != len(shape) + 1:
        return False
    return all([fits(kind, item, many) for kind, item in zip(shape, thing[1:])])


def has_shape(thing, many):
    """Whether it is a tuple of a word and what belongs behind that word, its parts left aside."""
    word = first_word(thing)
    return word in SHAPES and fits_shape(thing, SHAPES[word], many)


def is_registers(thing):
    """Whether it is registers, of anything."""
    if not isinstance(thing, tuple) or len(thing) != HOW_MANY_REGISTERS:
        return False
    low, high = BOUNDS["figure"]
    return all([is_within(number, low, high) for number in thing])


def parts(expression):
    """The expressions straight in an expression, as they stand."""
    shape = SHAPES[expression[0]]
    return [item for kind, item in zip(shape, expression[1:]) if kind == "part"]


def count_parts(thing, many, deep):
    """How many expressions are in it with itself; 0 where it is none, or nested deeper than deep."""
    if deep == 0 or not has_shape(thing, many):
        return 0
    total = 1
    for part in parts(thing):
        inside = count_parts(part, many, deep - 1)
        if inside == 0:
            return 0
        total += inside
    return total


def is_expression(thing, many):
    """Whether it is an expression of so many signs, of anything."""
    return 1 <= count_parts(thing, many, MOST_DEEP) <= MOST_PARTS


def led_part(expression, registers):
    """The part that a when word leads to by the registers."""
    word, place, figure, first, second = expression
    return first if registers[place] < figure else second


def side_part(expression, shares):
    """The part that a where word leads to at the shares."""
    word, sign, line, first, second = expression
    return first if 1000 * shares[sign] < line * sum(shares) else second


def join_worths(word, first, second):
    """What a word of two parts alone makes of their worths."""
    if word == "sum":
        return first + second
    if word == "less":
        return first - second
    return min(first, second) if word == "least" else max(first, second)


def worth(expression, registers, shares):
    """What the expression is worth, n times as many thousandths as it stands for."""
    word = expression[0]
    if word == "fig":
        return expression[1] * sum(shares)
    if word == "reg":
        return registers[expression[1]] * sum(shares)
    if word == "share":
        return 1000 * shares[expression[1]]
    if word == "times":
        return expression[1] * worth(expression[2], registers, shares)
    if word == "by":
        return registers[expression[1]] * worth(expression[2], registers, shares)
    if word == "when":
        return worth(led_part(expression, registers), registers, shares)
    if word == "where":
        return worth(side_part(expression, shares), registers, shares)
    first = worth(expression[1], registers, shares)
    second = worth(expression[2], registers, shares)
    return join_worths(word, first, second)


def join_spans(word, first, second):
    """The span of a word with two parts, by the spans of these."""
    low, high = first
    lower, higher = second
    if word == "sum":
        return (low + lower, high + higher)
    if word == "less":
        return (low - higher, high - lower)
    if word == "least":
        return (min(low, lower), min(high, higher))
    if word == "most":
        return (max(low, lower), max(high, higher))
    return (min(low, lower), max(high, higher))


def span(expression):
    """(low, high) that the worth by n stays within, whatever the registers and the shares."""
    word = expression[0]
    if word == "fig":
        return (expression[1], expression[1])
    if word == "reg":
        return (-1000, 1000)
    if word == "share":
        return (0, 1000)
    spans = [span(part) for part in parts(expression)]
    if word == "times":
        ends = [expression[1] * end for end in spans[0]]
        return (min(ends), max(ends))
    if word == "by":
        furthest = max([abs(end) for end in spans[0]])
        return (-1000 * furthest, 1000 * furthest)
    return join_spans(word, spans[0], spans[1])


def leaves(expression):
    """How many straight pieces the expression may be made of."""
    counts = [leaves(part) for part in parts(expression)]
    if not counts:
        return 1
    if len(counts) == 1:
        return counts[0]
    first, second = counts
    if expression[0] in ("sum", "less"):
        return first * second
    if expression[0] == "when":
        return max(first, second)
    return first + second


def borders(expression):
    """How many lines the straight pieces of the expression may be parted by."""
    counts = [borders(part) for part in parts(expression)]
    word = expression[0]
    if word == "when":
        return max(counts)
    total = sum(counts)
    if word == "where":
        return total + 1
    if word in ("least", "most"):
        first, second = parts(expression)
        return total + leaves(first) * leaves(second)
    return total
