"""Stakes with many borders, counted by hand, and houses just within and just beyond the most."""

from tests.house_maker import NONE, doubter_of, inner, one_of

X, Y = ("share", 0), ("share", 1)

ONE = ("least", X, Y)                            # 2 leaves, 1 border
FOUR_LEAVES = ("sum", ONE, ONE)                  # 2 borders
EIGHT_LEAVES = ("sum", ONE, FOUR_LEAVES)         # 3 borders
SIXTEEN_LEAVES = ("sum", FOUR_LEAVES, FOUR_LEAVES)   # 4 borders

B20 = ("most", FOUR_LEAVES, FOUR_LEAVES)         # 2 + 2 + 4 * 4
B37 = ("least", EIGHT_LEAVES, FOUR_LEAVES)       # 3 + 2 + 8 * 4
B135 = ("most", SIXTEEN_LEAVES, EIGHT_LEAVES)    # 4 + 3 + 16 * 8
B264 = ("least", SIXTEEN_LEAVES, SIXTEEN_LEAVES)     # 4 + 4 + 16 * 16


def crooked(*stakes, motes=0):
    """A one with these stakes."""
    return one_of(doubter_of(len(stakes), scale=4, stakes=stakes), motes)


def full(many):
    """Two ones that together have just the most borders."""
    if many == 2:
        return (crooked(B264, ONE), crooked(NONE, B135))
    return (crooked(ONE, B37, NONE), crooked(B20, ONE, ONE))


def one_more(many):
    """A one with one border, in its last stake."""
    return crooked(*(NONE,) * (many - 1), ONE)


def full_of_all(many):
    """Members with just the most of everything: twelve ones, twelve houses, three deep, all borders."""
    plain = one_of(doubter_of(many), motes=1)
    first, second = full(many)
    houses = (inner(first, inner(inner(second), plain)),) + (inner(plain),) * 7 + (inner(),) * 2
    return houses + (plain,) * 2
