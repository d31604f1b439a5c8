"""Expressions, registers and shares made by a seeded row of chances, for tests over many of them."""

from math import gcd


def figure_by(chance):
    return chance.choice((-1000, -1, 0, 1, 250, 500, 1000, chance.randint(-1000, 1000)))


def line_by(chance):
    return chance.choice((1, 100, 250, 500, 500, 750, 999, 1000, chance.randint(1, 1000)))


def leaf_by(chance, many):
    word = chance.choice(("fig", "reg", "share", "share"))
    if word == "fig":
        return (word, figure_by(chance))
    return (word, chance.randrange(4 if word == "reg" else many))


def expression_by(chance, many, room, deep, words=None):
    """An expression of at most room expressions, at most deep deep."""
    words = words or ("sum", "less", "times", "by", "least", "most", "when", "where", "where")
    word = chance.choice(words)
    if deep == 1 or room < 3 or chance.random() < 0.1:
        return leaf_by(chance, many)
    if word in ("times", "by"):
        first = chance.randint(-9, 9) if word == "times" else chance.randrange(4)
        return (word, first, expression_by(chance, many, room - 1, deep - 1, words))
    share = chance.randint(1, room - 2)
    inside = tuple(expression_by(chance, many, part, deep - 1, words) for part in (share, room - 1 - share))
    if word == "when":
        return (word, chance.randrange(4), figure_by(chance)) + inside
    if word == "where":
        return (word, chance.randrange(many), line_by(chance)) + inside
    return (word,) + inside


def registers_by(chance):
    return tuple(figure_by(chance) for k in range(4))


def shares_by(chance, many):
    row = [chance.choice((0, 1, 2, 250, 1000, chance.randint(0, 10 ** 6))) for k in range(many)]
    row[chance.randrange(many)] += 1
    part = gcd(*row)
    return tuple(number // part for number in row)
