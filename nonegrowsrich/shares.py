"""Shares: how likely each of two or three signs is, as whole numbers without a common part."""


def is_number(thing):
    """Whether it is a whole number; True and False are none."""
    return isinstance(thing, int) and not isinstance(thing, bool)


def is_within(thing, low, high):
    """Whether it is a number from low to high."""
    return is_number(thing) and low <= thing <= high


def common_part(row):
    """The greatest number that divides all of the row; 0 where all are 0."""
    part = 0
    for number in row:
        rest = number
        while rest:
            part, rest = rest, part % rest
    return part


def is_shares(thing, many):
    """Whether it is shares of so many signs, of anything."""
    if not isinstance(thing, tuple) or len(thing) != many:
        return False
    for number in thing:
        if not is_number(number) or number < 0:
            return False
    return common_part(thing) == 1


def lowest(row):
    """The row, each number by the greatest that divides all."""
    part = common_part(row)
    return tuple([number // part for number in row])


def mills(shares, sign):
    """The sign's share in thousandths, rounded down."""
    return 1000 * shares[sign] // sum(shares)
