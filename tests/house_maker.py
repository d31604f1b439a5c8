"""Doubters, ones and houses to test with: plain ones, and some made by a seeded row of chances."""

from nonegrowsrich.houses import is_house
from tests.expression_maker import expression_by, figure_by, registers_by

ZERO = (0, 0, 0, 0)
NONE = ("fig", 0)


def doubter_of(many, name="a", scale=0, begins=ZERO, stakes=None, behinds=None):
    """A doubter that stakes nothing and does nothing, but for what is told."""
    return (name, scale, begins, stakes or (NONE,) * many, behinds or ((),) * many)


def one_of(doubter, motes=0, registers=ZERO, weight=1, owed=0, days=0, got=0):
    return ("one", doubter, registers, weight, motes, owed, days, got)


def inner(*members, name="h"):
    """A house as a member."""
    return ("house", name, members)


def chain_of_houses(deep, *members):
    """A house as a member, nested so deep, the members in the innermost one."""
    thing = inner(*members)
    for k in range(deep - 1):
        thing = inner(thing)
    return thing


def figs(*numbers):
    """A stake for each number, worth that many thousandths at all shares; numbers from -9999 to 9999."""
    return tuple(fig(number) for number in numbers)


def fig(number):
    if abs(number) <= 1000:
        return ("fig", number)
    turn = 1 if number > 0 else -1
    thousands, rest = divmod(abs(number), 1000)
    return ("sum", ("times", turn * thousands, ("fig", 1000)), ("fig", turn * rest))


def deeds_by(chance, many, room, deep):
    """(deeds, how many): at most room deeds in all, at most deep deep."""
    deeds, total = [], 0
    for k in range(chance.randint(0, 4)):
        if total == room:
            break
        word = chance.choice(("put", "add", "copy", "plus", "told", "when", "when"))
        place = chance.randrange(4)
        if word == "when":
            first, used = deeds_by(chance, many, room - total - 1, deep - 1) if deep > 1 else ((), 0)
            second, more = deeds_by(chance, many, room - total - 1 - used, deep - 1) if deep > 1 else ((), 0)
            deeds.append((word, place, figure_by(chance), first, second))
            total += 1 + used + more
            continue
        what = {"copy": chance.randrange(4), "plus": chance.randrange(4), "told": chance.randrange(many)}
        deeds.append((word, place, what.get(word, figure_by(chance))))
        total += 1
    return tuple(deeds), total


def doubter_by(chance, many, room=30):
    """A doubter, its stakes of at most room expressions and four more each."""
    scale = chance.randrange(5)
    end = min(1000, 500 * 2 ** scale)
    stakes = tuple(
        ("most", ("fig", -end), ("least", ("fig", end), expression_by(chance, many, room, 6)))
        for sign in range(many)
    )
    behinds = tuple(deeds_by(chance, many, 20, 4)[0] for sign in range(many))
    return (chance.choice(("a", "bet", "zzzzzzzz")), scale, registers_by(chance), stakes, behinds)


def members_by(chance, many, room, deep):
    """Members, at most room of them at each depth, houses at most deep deep."""
    members = []
    for k in range(chance.randint(0, room)):
        if deep and chance.random() < 0.4:
            members.append(inner(*members_by(chance, many, room, deep - 1)))
        else:
            motes = chance.choice((0, 1, 7, 10 ** 15, chance.randint(0, 1000)))
            one = one_of(doubter_by(chance, many, 4), motes, registers_by(chance), got=chance.randint(-9, 9))
            members.append(one)
    return tuple(members)


def house_by(chance, many):
    """A house within all bounds."""
    while True:
        house = (many, members_by(chance, many, 4, 3))
        if is_house(house):
            return house
