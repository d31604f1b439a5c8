"""A slow search for right shares by fractions, written apart from the package, to weigh it against.

All lines at which some stake may bend or break are drawn at once; on each face between them all pulls are straight.
"""

from fractions import Fraction
from itertools import combinations
from math import gcd, lcm

from tests.slow import slow_worth


def ones_of(members):
    """All ones, as they stand."""
    found = []
    for member in members:
        found += [member] if member[0] == "one" else ones_of(member[2])
    return found


def slow_pull(house, point):
    """The pull on each sign by n, point holding each sign's share as a fraction."""
    many, members = house
    return [
        sum(one[4] * slow_worth(one[1][3][sign], one[2], point) * 2 ** (4 - one[1][1]) for one in ones_of(members))
        for sign in range(many)
    ]


def slow_is_right(house, point):
    pulls = slow_pull(house, point)
    return all(pulls[sign] == max(pulls) for sign in range(len(point)) if point[sign] > 0)


def slow_answers(house, point, sign):
    """Whether the sign answers the shares: its pull is the greatest, and its gain is above 0."""
    pulls = slow_pull(house, point)
    return pulls[sign] == max(pulls) and pulls[sign] > sum(a * b for a, b in zip(pulls, point))


def add(a, b, turn=1):
    return tuple(x + turn * y for x, y in zip(a, b))


def leaves_and_lines(expression, registers, many):
    """(leaves, lines): all forms that the expression may follow, and all at whose 0 it may leave one for another."""
    word, *rest = expression
    if word == "when":
        return leaves_and_lines(rest[2 if registers[rest[0]] < rest[1] else 3], registers, many)
    inside = [leaves_and_lines(part, registers, many) for part in rest if isinstance(part, tuple)]
    lines = set().union(*(found[1] for found in inside))
    if word in ("fig", "reg"):
        return {(rest[0] if word == "fig" else registers[rest[0]],) * many}, lines
    unit = tuple(1000 if place == rest[0] else 0 for place in range(many))
    if word == "share":
        return {unit}, lines
    if word in ("times", "by"):
        factor = rest[0] if word == "times" else registers[rest[0]]
        return {tuple(factor * x for x in form) for form in inside[0][0]}, lines
    pairs = [(a, b) for a in inside[0][0] for b in inside[1][0]]
    if word in ("sum", "less"):
        return {add(a, b, 1 if word == "sum" else -1) for a, b in pairs}, lines
    if word == "where":
        lines.add(add(unit, (rest[1],) * many, -1))
    else:
        lines |= {add(a, b, -1) for a, b in pairs}
    return inside[0][0] | inside[1][0], lines


def slow_lines(house):
    """All lines of the house, those at the ends of each share too, each once."""
    many, members = house
    found = {tuple(int(place == sign) for place in range(many)) for sign in range(many)}
    for one in ones_of(members):
        for stake in one[1][3]:
            for form in leaves_and_lines(stake, one[2], many)[1]:
                part = gcd(*form)
                if part and len(set(form)) > 1:
                    form = tuple(x // part for x in form)
                    found.add(max(form, tuple(-x for x in form)))
    return sorted(found)


def at(form, point):
    return sum(a * b for a, b in zip(form, point))


def cross(a, b):
    return (a[1] * b[2] - a[2] * b[1], a[2] * b[0] - a[0] * b[2], a[0] * b[1] - a[1] * b[0])


def as_point(row):
    """The row by its sum, where it is shares by their sum; None else."""
    total = sum(row)
    if total == 0:
        return None
    point = tuple(Fraction(x, total) for x in row)
    return point if min(point) >= 0 else None


def meeting_points(first, second, many):
    """The points at which both lines are 0; of two signs those at which the first is."""
    row = (first[1], -first[0]) if many == 2 else cross(first, second)
    point = as_point(row)
    return [point] if point else []


def middle(a, b):
    return tuple((x + y) / 2 for x, y in zip(a, b))


def points_on(line, lines, many):
    """The points at which the others meet a line, as they stand on it, and those midway between each two."""
    marks = sorted({point for other in lines for point in meeting_points(line, other, many) if other != line})
    return marks + [middle(a, b) for a, b in zip(marks, marks[1:])]


def pull_forms(house, point):
    """Forms, by the slopes at the point, that the pulls follow on its face."""
    many, members = house
    forms = []
    for sign in range(many):
        form = (Fraction(0),) * many
        for one in ones_of(members):
            factor = one[4] * 2 ** (4 - one[1][1])
            form = add(form, followed(one[1][3][sign], one[2], point), factor)
        forms.append(form)
    return forms


def followed(expression, registers, point):
    """The form that the expression follows at the point."""
    word, *rest = expression
    many = len(point)
    if word in ("fig", "reg"):
        return (rest[0] if word == "fig" else registers[rest[0]],) * many
    if word == "share":
        return tuple(1000 if place == rest[0] else 0 for place in range(many))
    if word == "when":
        return followed(rest[2 if registers[rest[0]] < rest[1] else 3], registers, point)
    if word == "where":
        return followed(rest[2 if 1000 * point[rest[0]] < rest[1] else 3], registers, point)
    if word in ("times", "by"):
        factor = rest[0] if word == "times" else registers[rest[0]]
        return tuple(factor * x for x in followed(rest[1], registers, point))
    a, b = (followed(part, registers, point) for part in rest)
    if word in ("sum", "less"):
        return add(a, b, 1 if word == "sum" else -1)
    return (min if word == "least" else max)(a, b, key=lambda form: at(form, point))


def face_points(lines, many):
    """A point of each face between the lines, and more."""
    if many == 2:
        marks = sorted(point for line in lines for point in meeting_points(line, None, 2))
        return marks + [middle(a, b) for a, b in zip(marks, marks[1:])]
    found = {point for line in lines for point in points_on(line, lines, 3)}
    corners = sorted(point for point in found)
    inner = {cell_point(point, line, lines, turn) for line in lines for point in points_on(line, lines, 3)
             for turn in (1, -1)}
    return corners + sorted(point for point in inner if point)


def cell_point(point, line, lines, turn):
    """A point off the line at one side, so near to the given one that no line lies between both; None outside."""
    mean = sum(Fraction(x) for x in line) / 3
    away = tuple(turn * (x - mean) for x in line)
    reach = [abs(at(form, point) / at(form, away)) for form in lines if at(form, away) * at(form, point) < 0]
    moved = add(point, away, min(reach) / 2 if reach else Fraction(1))
    return moved if min(moved) > 0 else None


def face_candidates(house, lines, point):
    """Points such that, where some of the face of the given one are right, one of these is."""
    many = house[0]
    forms = pull_forms(house, point)
    differences = [add(a, b, -1) for a, b in combinations(forms, 2)]
    found = [point]
    if many == 2:
        return found + [other for form in differences for other in meeting_points(form, None, 2)]
    for form in differences:
        if any(form):
            found += points_on(form, lines + [other for other in differences if any(other)], 3)
    return found


def slow_find(house):
    """A right point; None where none are."""
    lines = slow_lines(house)
    for point in face_points(lines, house[0]):
        for other in face_candidates(house, lines, point):
            if slow_is_right(house, other):
                return other
    return None


def as_shares(point):
    """The point's shares in lowest numbers."""
    whole = lcm(*(Fraction(x).denominator for x in point))
    row = [int(x * whole) for x in point]
    return tuple(x // gcd(*row) for x in row)


def slow_answer(tree, point):
    """The sign that the tree comes to."""
    while tree[0] == "cut":
        tree = tree[2 if at(tree[1], point) < 0 else 3]
    return tree[1]


def tree_forms(tree):
    """All forms of the tree that part shares."""
    if tree[0] == "sign":
        return set()
    here = {tree[1]} if len(set(tree[1])) > 1 else set()
    return here | tree_forms(tree[2]) | tree_forms(tree[3])


def turn_of(number):
    return (number > 0) - (number < 0)


def corners_of(point, corners, lines):
    """The corners of the face of the point."""
    turns = [turn_of(at(line, point)) for line in lines]
    return [
        corner for corner in corners
        if all(turn_of(at(line, corner)) in (0, turn) for line, turn in zip(lines, turns))
    ]


def slow_shows_none(house, tree):
    """Whether the tree answers all shares, seen at the corners of each face of the house's lines and the tree's."""
    many = house[0]
    lines = sorted(set(slow_lines(house)) | tree_forms(tree))
    corners = {point for line in lines for other in lines for point in meeting_points(line, other, many)}
    for point in face_points(lines, many):
        sign = slow_answer(tree, point)
        if not slow_answers(house, point, sign):
            return False
        forms = pull_forms(house, point)
        for corner in corners_of(point, corners, lines):
            if any(at(forms[sign], corner) < at(form, corner) for form in forms):
                return False
    return True
