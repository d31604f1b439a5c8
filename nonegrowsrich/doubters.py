"""Doubters: what they are, what they stake at shares, and what their deeds make of their registers."""

from nonegrowsrich.expressions import first_word, fits_shape, is_expression, is_registers, span, worth
from nonegrowsrich.jumps import is_even
from nonegrowsrich.shares import is_within, mills

LETTERS = "abcdefghijklmnopqrstuvwxyz"
LONGEST_NAME = 8

# What stands behind each deed's word, in order; a "part" is a tuple of deeds itself.
DEEDS = {
    "put": ("place", "figure"),
    "add": ("place", "figure"),
    "copy": ("place", "place"),
    "plus": ("place", "place"),
    "told": ("place", "sign"),
    "when": ("place", "figure", "part", "part"),
}

MOST_DEEDS = 20
MOST_DEEP = 4

GREATEST_SCALE = 4
WIDEST = 500

LEAST_HELD = -1000
MOST_HELD = 1000


def is_name(thing):
    """Whether it is a NAME, of anything."""
    if not isinstance(thing, str) or not 1 <= len(thing) <= LONGEST_NAME:
        return False
    return all([letter in LETTERS for letter in thing])


def power(scale):
    """2 to the power of a scale."""
    return 1 << max(0, scale)


def count_deed(thing, many, deep):
    """How many deeds it is, with those within it; None where it is no deed, or has too many within or too deep."""
    word = first_word(thing)
    if word not in DEEDS or not fits_shape(thing, DEEDS[word], many):
        return None
    total = 1
    for inner in thing[3:]:
        inside = count_deeds(inner, many, deep - 1)
        if inside is None:
            return None
        total += inside
    return total


def count_deeds(thing, many, deep):
    """How many deeds a tuple of deeds holds; None where it is none, or they are too many or nested too deep."""
    # Deeds alone are nested: a when at the bottom may still hold empty tuples.
    if not isinstance(thing, tuple) or (thing and deep == 0):
        return None
    total = 0
    for deed in thing:
        inside = count_deed(deed, many, deep)
        if inside is None or total + inside > MOST_DEEDS:
            return None
        total += inside
    return total


def is_stake(thing, scale, many):
    """Whether it is an expression that stays as near to 0 as a stake of that scale must."""
    if not is_expression(thing, many):
        return False
    low, high = span(thing)
    widest = WIDEST * power(scale)
    return -widest <= low and high <= widest


def are_stakes(thing, scale, many):
    """Whether it is a stake for each sign."""
    if not isinstance(thing, tuple) or len(thing) != many:
        return False
    return all([is_stake(stake, scale, many) for stake in thing])


def are_behinds(thing, many):
    """Whether it is a tuple of deeds for each sign."""
    if not isinstance(thing, tuple) or len(thing) != many:
        return False
    return all([count_deeds(deeds, many, MOST_DEEP) is not None for deeds in thing])


def is_doubter(thing, many):
    """Whether it is a doubter of so many signs, of anything."""
    if not isinstance(thing, tuple) or len(thing) != 5:
        return False
    name, scale, begins, stakes, behinds = thing
    if not is_name(name) or not is_within(scale, 0, GREATEST_SCALE) or not is_registers(begins):
        return False
    return are_stakes(stakes, scale, many) and are_behinds(behinds, many)


def stakes_at(doubter, registers, shares):
    """What each of the doubter's stakes is worth."""
    name, scale, begins, stakes, behinds = doubter
    return tuple([worth(stake, registers, shares) for stake in stakes])


def held_by(deed, registers, shares):
    """What a deed other than when would have its place among the registers hold."""
    word, place, what = deed
    if word == "put":
        return what
    if word == "add":
        return registers[place] + what
    if word == "copy":
        return registers[what]
    if word == "plus":
        return registers[place] + registers[what]
    return mills(shares, what)


def with_held(registers, place, number):
    """The registers, the one at the place holding the number, or the nearest to it that it can hold."""
    held = max(LEAST_HELD, min(MOST_HELD, number))
    return registers[:place] + (held,) + registers[place + 1:]


def led_deeds(deed, registers):
    """The deeds that a when deed leads to by the registers."""
    word, place, figure, first, second = deed
    return first if registers[place] < figure else second


def do_deeds(deeds, registers, shares):
    """The registers behind the deeds, one behind the other."""
    for deed in deeds:
        if deed[0] == "when":
            registers = do_deeds(led_deeds(deed, registers), registers, shares)
        else:
            registers = with_held(registers, deed[1], held_by(deed, registers, shares))
    return registers


def behind(doubter, registers, shares, sign):
    """The registers behind the doubter's deeds for the sign that came."""
    name, scale, begins, stakes, behinds = doubter
    return do_deeds(behinds[sign], registers, shares)


def bound(doubter):
    """How far from 0 a stake of the doubter may be, in thousandths of a mote for each mote, 1 at the least."""
    name, scale, begins, stakes, behinds = doubter
    furthest = max([abs(end) for stake in stakes for end in span(stake)])
    whole = power(scale)
    return max(1, (furthest + whole - 1) // whole)


def is_still(doubter, registers):
    """Whether each stake of the doubter is even by the registers."""
    name, scale, begins, stakes, behinds = doubter
    return all([is_even(stake, registers, len(stakes)) for stake in stakes])
