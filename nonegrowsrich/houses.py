"""Houses: the ones in them, how members join and leave, and how hard all ones together pull at shares.

A house is (many, members); a house in it is a member, ("house", name, members), and has no many of its own.
"""

from nonegrowsrich.doubters import GREATEST_SCALE, is_doubter, is_name, power, stakes_at
from nonegrowsrich.errors import Crowded, NoPlace
from nonegrowsrich.expressions import borders, first_word, is_registers
from nonegrowsrich.shares import is_number, is_within

MOST_ONES = 12
MOST_HOUSES = 12
MOST_DEEP = 3
MOST_BORDERS = {2: 400, 3: 60}
MOST_WEIGHT = 10 ** 12


def is_weight(thing):
    """Whether it is a weight, of anything."""
    return is_within(thing, 1, MOST_WEIGHT)


def is_one(thing, many):
    """Whether it is a one of so many signs, of anything."""
    if first_word(thing) != "one" or len(thing) != 8:
        return False
    word, doubter, registers, weight, held, owed, days, got = thing
    if not is_weight(weight) or not is_number(got):
        return False
    if not all([is_number(number) and number >= 0 for number in (held, owed, days)]):
        return False
    return is_registers(registers) and is_doubter(doubter, many)


def is_member(thing, many, deep):
    """Whether it is a member, of anything, with houses nested at most so deep, itself counted where it is one."""
    if first_word(thing) != "house":
        return is_one(thing, many)
    if deep == 0 or len(thing) != 3:
        return False
    return is_name(thing[1]) and are_members(thing[2], many, deep - 1)


def are_members(thing, many, deep):
    """Whether it is a tuple of members, of anything, with houses nested at most so deep."""
    # No house holds more members than all of both kinds: a longer tuple need not be looked into.
    if not isinstance(thing, tuple) or len(thing) > MOST_ONES + MOST_HOUSES:
        return False
    return all([is_member(member, many, deep) for member in thing])


def stands(members, path):
    """(path, member) of the members of the house at the path and of all within them, as they stand."""
    found = []
    for number, member in enumerate(members):
        here = path + (number,)
        found.append((here, member))
        if member[0] == "house":
            found.extend(stands(member[2], here))
    return found


def one_borders(one):
    """The borders of all stakes of a one together."""
    name, scale, begins, stakes, behinds = one[1]
    return sum([borders(stake) for stake in stakes])


def crowd(house):
    """What the house holds too many of, the first in the order of the refusals; None where of nothing."""
    many, members = house
    found = stands(members, ())
    lone = [member for path, member in found if member[0] == "one"]
    depths = [len(path) for path, member in found if member[0] == "house"]
    if len(lone) > MOST_ONES:
        return "ones"
    if len(depths) > MOST_HOUSES:
        return "houses"
    if max(depths, default=0) > MOST_DEEP:
        return "deep"
    if sum([one_borders(one) for one in lone]) > MOST_BORDERS[many]:
        return "borders"
    return None


def is_house(thing):
    """Whether it is a house, of anything."""
    if not isinstance(thing, tuple) or len(thing) != 2:
        return False
    many, members = thing
    if not is_within(many, 2, 3) or not are_members(members, many, MOST_DEEP):
        return False
    return crowd(thing) is None


def ones(house):
    """(path, one) of each one in the house, as they stand."""
    many, members = house
    return tuple([(path, member) for path, member in stands(members, ()) if member[0] == "one"])


def motes(house):
    """The motes of all ones together."""
    return sum([one[4] for path, one in ones(house)])


def is_path(thing):
    """Whether it is a tuple of numbers, of anything."""
    return isinstance(thing, tuple) and all([is_number(number) for number in thing])


def members_at(house, path):
    """The members of the house at the path, a tuple of numbers; None where no house stands there."""
    many, members = house
    for number in path:
        if not 0 <= number < len(members) or members[number][0] != "house":
            return None
        members = members[number][2]
    return members


def with_members(members, path, inside):
    """The members, those of the house at the path being what is handed in as inside."""
    if not path:
        return inside
    number = path[0]
    word, name, within = members[number]
    changed = (word, name, with_members(within, path[1:], inside))
    return members[:number] + (changed,) + members[number + 1:]


def joined(house, path, member):
    """The house with the member put behind the others of the house at the path."""
    beside = members_at(house, path) if is_path(path) else None
    if beside is None:
        raise NoPlace(path)
    many, members = house
    larger = (many, with_members(members, path, beside + (member,)))
    what = crowd(larger)
    if what is not None:
        raise Crowded(what)
    return larger


def left(house, path):
    """(house, motes): the house without the member at the path, and the motes that go with it."""
    if not is_path(path) or not path:
        raise NoPlace(path)
    around, number = path[:-1], path[-1]
    beside = members_at(house, around)
    if beside is None or not 0 <= number < len(beside):
        raise NoPlace(path)
    many, members = house
    rest = beside[:number] + beside[number + 1:]
    gone = (many, (beside[number],))
    return ((many, with_members(members, around, rest)), motes(gone))


def one_factor(one):
    """What a one's stakes are multiplied by in its pulls."""
    word, doubter, registers, weight, held, owed, days, got = one
    return held * power(GREATEST_SCALE - doubter[1])


def one_pull(one, shares):
    """How hard a one pulls on each sign at the shares."""
    factor = one_factor(one)
    return [factor * stake for stake in stakes_at(one[1], one[2], shares)]


def pull(house, shares):
    """How hard all ones together pull on each sign at the shares."""
    many, members = house
    pulls = [one_pull(one, shares) for path, one in ones(house)]
    return tuple([sum([row[sign] for row in pulls]) for sign in range(many)])


def gain(house, shares, sign):
    """How many 16000ths of n n of a mote come into the house where the sign comes, ahead of rounding."""
    pulls = pull(house, shares)
    paid = sum([number * pulled for number, pulled in zip(shares, pulls)])
    return sum(shares) * pulls[sign] - paid


def is_right(house, shares):
    """Whether each sign with a number above 0 in the shares has the greatest pull."""
    pulls = pull(house, shares)
    greatest = max(pulls)
    return all([number == 0 or pulled == greatest for number, pulled in zip(shares, pulls)])
