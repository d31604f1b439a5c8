"""Slow reckoners by fractions, written apart from the package, to weigh it against."""

from fractions import Fraction


def slow_worth(expression, registers, point):
    """The worth by n, in thousandths; point holds each sign's share as a fraction."""
    word, *rest = expression
    values = [slow_worth(part, registers, point) for part in rest if isinstance(part, tuple)]
    if word == "fig":
        return Fraction(rest[0])
    if word == "reg":
        return Fraction(registers[rest[0]])
    if word == "share":
        return 1000 * point[rest[0]]
    if word == "when":
        return values[0 if registers[rest[0]] < rest[1] else 1]
    if word == "where":
        return values[0 if 1000 * point[rest[0]] < rest[1] else 1]
    made = {
        "sum": lambda: values[0] + values[1], "less": lambda: values[0] - values[1],
        "times": lambda: rest[0] * values[0], "by": lambda: registers[rest[0]] * values[0],
        "least": lambda: min(values), "most": lambda: max(values),
    }
    return made[word]()


def crossings(forms):
    """The places at which a straight line (slope, height) of the forms is 0."""
    return {-height / slope for slope, height in forms if slope != 0}


def lines_of(expression, registers, low, high, cuts):
    """All straight lines the expression may follow from low (at 0) to high (at 1); its bends go into cuts."""
    word, *rest = expression
    inside = [lines_of(part, registers, low, high, cuts) for part in rest if isinstance(part, tuple)]
    if word in ("fig", "reg"):
        return {(Fraction(0), Fraction(rest[0] if word == "fig" else registers[rest[0]]))}
    if word == "share":
        return {(1000 * (high[rest[0]] - low[rest[0]]), 1000 * low[rest[0]])}
    if word in ("times", "by"):
        factor = rest[0] if word == "times" else registers[rest[0]]
        return {(factor * a, factor * b) for a, b in inside[0]}
    if word in ("sum", "less"):
        turn = 1 if word == "sum" else -1
        return {(a + turn * c, b + turn * d) for a, b in inside[0] for c, d in inside[1]}
    if word in ("least", "most"):
        cuts |= crossings({(a - c, b - d) for a, b in inside[0] for c, d in inside[1]})
    if word == "where":
        cuts |= crossings({(1000 * (high[rest[0]] - low[rest[0]]), 1000 * low[rest[0]] - rest[1])})
    return inside[0] | inside[1]


def slow_places(cuts):
    """The cuts from 0 to 1, both ends, and two places between each two of these."""
    marks = sorted({Fraction(0), Fraction(1)} | {cut for cut in cuts if 0 < cut < 1})
    places = list(marks)
    for a, b in zip(marks, marks[1:]):
        places += [a + (b - a) / 3, a + 2 * (b - a) / 3]
    return places


def slow_jump_points(where, registers, many):
    """Points at which the where word jumps: some of them where there are any."""
    word, sign, line, first, second = where
    ends = []
    for other in range(many):
        if other != sign:
            point = [Fraction(0)] * many
            point[sign], point[other] = Fraction(line, 1000), Fraction(1000 - line, 1000)
            ends.append(point)
    cuts = set()
    lines_of(first, registers, ends[0], ends[-1], cuts)
    lines_of(second, registers, ends[0], ends[-1], cuts)
    points = [[a + t * (b - a) for a, b in zip(ends[0], ends[-1])] for t in slow_places(cuts)]
    return [p for p in points if slow_worth(first, registers, p) != slow_worth(second, registers, p)]


def slow_wheres(expression, registers, met=True):
    """(where word, whether it is met), in order."""
    word, *rest = expression
    found = [(expression, met)] if word == "where" else []
    inside = [part for part in rest if isinstance(part, tuple)]
    for at, part in enumerate(inside):
        here = met
        if word == "when":
            here = met and (registers[rest[0]] < rest[1]) == (at == 0)
        found += slow_wheres(part, registers, here)
    return found


def slow_behind(deeds, registers, shares):
    """The registers behind the deeds, kept in one list."""
    held = list(registers)

    def run(row):
        for word, place, what, *sides in row:
            if word == "when":
                run(sides[0] if held[place] < what else sides[1])
                continue
            held[place] = {
                "put": lambda: what, "add": lambda: held[place] + what, "copy": lambda: held[what],
                "plus": lambda: held[place] + held[what],
                "told": lambda: int(Fraction(1000 * shares[what], sum(shares))),
            }[word]()
            held[place] = sorted((-1000, held[place], 1000))[1]

    run(deeds)
    return tuple(held)
