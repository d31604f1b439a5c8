"""Chances: how far off what a one stands for came, and how far off it surely is at most.

Powers of many days are long: they are weighed by their first bits, as few as tell. A rough number is
(low, high, shift): the number lies from low to high, both times 2 as often as shift says.
"""

from nonegrowsrich.days import GOT_PARTS
from nonegrowsrich.doubters import bound

MIDDLE = 500
FEWEST_BITS = 64


def off(one):
    """What came of the one's stakes, in parts of the most that one day can bring, 500 of them a day at the most."""
    word, doubter, registers, weight, held, owed, active, got = one
    return MIDDLE * got // (GOT_PARTS * bound(doubter))


def trimmed(low, high, shift, bits):
    """The rough number, its high end of at most so many bits and perhaps one more."""
    spare = max(0, high.bit_length() - bits)
    return (low >> spare, -(-high >> spare), shift + spare)


def rough_times(first, second, bits):
    """Two rough numbers multiplied."""
    low, high, shift = first
    other_low, other_high, other_shift = second
    return trimmed(low * other_low, high * other_high, shift + other_shift, bits)


def rough_power(base, exponent, bits):
    """The number, multiplied by itself as often as the exponent says, roughly; 1 of the exponent 0."""
    made = (1, 1, 0)
    square = trimmed(base, base, 0, bits)
    while exponent > 0:
        if exponent & 1:
            made = rough_times(made, square, bits)
        square = rough_times(square, square, bits)
        exponent = exponent >> 1
    return made


def is_above(number, shift, other, other_shift):
    """Whether the number, times 2 as often as its shift says, is above the other, times 2 so."""
    if number == 0 or other == 0:
        return number > other
    size = number.bit_length() + shift
    other_size = other.bit_length() + other_shift
    # The shifts may be far too long to be done: they are only where both numbers have the same size.
    if size != other_size:
        return size > other_size
    least = min(shift, other_shift)
    return number << (shift - least) > other << (other_shift - least)


def compared(first, second):
    """1 where the first rough number is surely above the second, -1 where surely not, 0 where they are too rough."""
    low, high, shift = first
    other_low, other_high, other_shift = second
    if is_above(low, shift, other_high, other_shift):
        return 1
    return 0 if is_above(high, shift, other_low, other_shift) else -1


def within_roughly(far, days, weight, held, more, bits):
    """As compared, of what must not be above, and of what it must not be above, for days and more."""
    ahead = rough_power(MIDDLE + far, days + more, bits)
    # Where far is beyond 500 all days but one are within, as they are with 0.
    behind = rough_power(max(0, MIDDLE - far), days - more, bits)
    ways = rough_times(ahead, behind, bits)
    taken = rough_times(ways, trimmed(weight * weight, weight * weight, 0, bits), bits)
    given = rough_times(rough_power(MIDDLE, 2 * days, bits), trimmed(held * held, held * held, 0, bits), bits)
    return compared(taken, given)


def is_within_sure(far, days, weight, held, more):
    """Whether the days may be off by so much more."""
    bits = FEWEST_BITS + 2 * days.bit_length()
    found = 0
    while found == 0:
        # Once all bits are kept nothing is rough, so this ends.
        found = within_roughly(far, days, weight, held, more, bits)
        bits = 2 * bits
    return found < 0


def most_off(far, days, weight, held):
    """The greatest number from -days to days that the days may be off by; None where there is none."""
    if days < 0 or not is_within_sure(far, days, weight, held, -days):
        return None
    low, high = -days, days
    while low < high:
        middle = (low + high + 1) // 2
        if is_within_sure(far, days, weight, held, middle):
            low = middle
        else:
            high = middle - 1
    return low


def sure(one):
    """The most that the one may be off, by its weight and by what it holds and is owed."""
    word, doubter, registers, weight, held, owed, active, got = one
    return most_off(bound(doubter), active, weight, held + owed)
