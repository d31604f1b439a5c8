"""Doubters, ones and houses to test with: plain ones, and some made by a seeded row of chances."""

from nonegrowsrich.houses import is_house
from tests.expression_maker import expression_by, figure_by, registers_by

ZERO = (0, 0, 0, 0)
NONE = ("fig", 0)


def doubter_of(many, name="a", scale=0, begins=ZERO, stakes=None, behinds=None):
    """A doubter that stakes nothing and does nothing, but for what is told."""
    return (name, scale, begins, stakes or (NONE,) * many, behinds or ((),) * many)


def one_of(doubter, motes=0, registers=ZERO, weight=1, owed=0, days=0, got=0):
    return ("one", doubter, registers, weight, motes, owed, days, got)


def inner(*members, name="h"):
    """A house as a member."""
    return ("house", name, members)


def chain_of_houses(deep, *members):
    """A house as a member, nested so deep, the members in the innermost one."""
    thing = inner(*members)
    for k in range(deep - 1):
        thing = inner(thing)
    return thing


def figs(*numbers):
    """A stake for each number, worth that many thousandths at all shares; numbers from -9999 to 9999."""
    return tuple(fig(number) for number in numbers)


def fig(number):
    if abs(number) <= 1000:
        return ("fig", number)
    turn = 1 if number > 0 else -1
    thousands, rest = divmod(abs(number), 1000)
    return ("sum", ("times", turn * thousands, ("fig", 1000)), ("fig", turn * rest))


def deeds_by(chance, many, room, deep):
    """(deeds, how many): at most room deeds in all, at most deep deep."""
    deeds, total = [], 0
    for k in range(chance.randint(0, 4)):
        if total == room:
            break
        word = chance.choice(("put", "add", "copy", "plus", "told", "when", "when"))
        place = chance.randrange(4)
        if word == "when":
            first, used = deeds_by(chance, many, room - total - 1, deep - 1) if deep > 1 else ((), 0)
            second, more = deeds_by(chance, many, room - total - 1 - used, deep - 1) if deep > 1 else ((), 0)
            deeds.append((word, place, figure_by(chance), first, second))
            total += 1 + used + more
            continue
        what = {"copy": chance.randrange(4), "plus": chance.randrange(4), "told": chance.randrange(many)}
        deeds.append((word, place, what.get(word, figure_by(chance))))
        total += 1
    return tuple(deeds), total


def doubter_by(chance, many, room=30):
    """A doubter, its stakes of at most room expressions and four more each."""
    scale = chance.randrange(5)
    end = min(1000, 500 * 2 ** scale)
    stakes = tuple(
        ("most", ("fig", -end), ("least", ("fig", end), expression_by(chance, many, room, 6)))
        for sign in range(many)
    )
    behinds = tuple(deeds_by(chance, many, 20, 4)[0] for sign in range(many))
    return (chance.choice(("a", "bet", "zzzzzzzz")), scale, registers_by(chance), stakes, behinds)


def members_by(chance, many, room, deep):
    """Members, at most room of them at each depth, houses at most deep deep."""
    members = []
    for k in range(chance.randint(0, room)):
        if deep and chance.random() < 0.4:
            members.append(inner(*members_by(chance, many, room, deep - 1)))
        else:
            motes = chance.choice((0, 1, 7, 10 ** 15, chance.randint(0, 1000)))
            one = one_of(doubter_by(chance, many, 4), motes, registers_by(chance), got=chance.randint(-9, 9))
            members.append(one)
    return tuple(members)


def house_by(chance, many):
    """A house within all bounds."""
    while True:
        house = (many, members_by(chance, many, 4, 3))
        if is_house(house):
            return house


def step_by(chance, many):
    """A stake that jumps at one line."""
    line = chance.choice((1, 250, 333, 500, 750, 999, 1000, chance.randint(1, 1000)))
    return ("where", chance.randrange(many), line, fig(chance.randint(-500, 500)), fig(chance.randint(-500, 500)))


def stepping_house_by(chance, many, count):
    """A house of so many ones whose stakes all jump."""
    members = []
    for k in range(count):
        stakes = tuple(step_by(chance, many) for sign in range(many))
        members.append(one_of(doubter_of(many, scale=chance.randrange(5), stakes=stakes), chance.randint(0, 100)))
    return (many, tuple(members))


def kink_by(chance, many, jumpy):
    """A stake with one border, a jump as often as jumpy tells."""
    if chance.random() < jumpy:
        return step_by(chance, many)
    first, second = (("times", chance.choice((-2, -1, 1, 2)), ("share", chance.randrange(many))) for k in (0, 1))
    return (chance.choice(("least", "most")), first, ("sum", second, fig(chance.randint(-1000, 1000))))


def kinky_house_by(chance, many, total, jumpy):
    """A house of at most twelve ones with so many borders, where there is room for them."""
    members = []
    while total > 0 and len(members) < 12:
        stakes = []
        for sign in range(many):
            count = min(total, chance.randint(0, 2))
            total -= count
            stake = fig(chance.randint(-500, 500))
            for k in range(count):
                stake = ("sum", stake, kink_by(chance, many, jumpy))
            stakes.append(stake)
        members.append(one_of(doubter_of(many, scale=4, stakes=tuple(stakes)), chance.randint(1, 1000)))
    return (many, tuple(members))


def small_house_by(chance, many):
    """A house of few borders, of one of several kinds."""
    kind = chance.randrange(3)
    if kind == 0:
        return stepping_house_by(chance, many, 1 if many == 3 else chance.randint(1, 3))
    if kind == 1:
        return kinky_house_by(chance, many, chance.randint(1, 5), chance.choice((0, 0.5, 1)))
    return house_by(chance, many)


def rival_of(many, told, motes=1):
    """A one that stakes on each sign what told's number is above 1000 times its share: right is its mean alone."""
    stakes = tuple(("less", ("fig", number), ("share", sign)) for sign, number in enumerate(told))
    return one_of(doubter_of(many, "rival", 4, ZERO, stakes), motes)


def stakes_house(*stakes, motes=1, scale=4):
    """A house of one one with these stakes."""
    return (len(stakes), (one_of(doubter_of(len(stakes), scale=scale, stakes=stakes), motes),))
