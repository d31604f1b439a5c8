"""Days: what a house is behind days of right shares and the signs that came."""

from nonegrowsrich.doubters import behind, power, stakes_at
from nonegrowsrich.errors import NotRight
from nonegrowsrich.finding import find
from nonegrowsrich.houses import is_right

# What a one got is kept in such parts, so that little is lost by rounding.
GOT_PARTS = 10 ** 9


def one_day(one, shares, sign):
    """The one behind the day."""
    word, doubter, registers, weight, held, owed, active, got = one
    stakes = stakes_at(doubter, registers, shares)
    whole = 1000 * power(doubter[1]) * sum(shares) * sum(shares)
    paid = sum([number * stake for number, stake in zip(shares, stakes)])
    won = sum(shares) * stakes[sign] - paid
    return (
        word,
        doubter,
        behind(doubter, registers, shares, sign),
        weight,
        held * (whole + won) // whole,
        # Rounded up: the negative of what is rounded down of the negative.
        -(-owed * (whole + won) // whole) + 1,
        active if min(stakes) == max(stakes) else active + 1,
        got + GOT_PARTS * won // whole,
    )


def member_day(member, shares, sign):
    """The member behind the day."""
    if member[0] == "one":
        return one_day(member, shares, sign)
    word, name, members = member
    return (word, name, members_day(members, shares, sign))


def members_day(members, shares, sign):
    """The members behind the day."""
    return tuple([member_day(member, shares, sign) for member in members])


def numbered_day(house, shares, sign, number):
    """The house behind a day, refused by its number where the shares are not right."""
    if not is_right(house, shares):
        raise NotRight(number)
    many, members = house
    return (many, members_day(members, shares, sign))


def day(house, shares, sign):
    """The house behind a day at right shares."""
    return numbered_day(house, shares, sign, 0)


def days(house, rows):
    """The house behind the days of all rows, (shares, sign) each."""
    for number, (shares, sign) in enumerate(rows):
        house = numbered_day(house, shares, sign, number)
    return house


def told_days(house, signs):
    """(tellings, house): the shares found for each sign, and the house behind these days, as long as some are found."""
    tellings = []
    for sign in signs:
        shares = find(house)
        if shares is None:
            break
        tellings.append(shares)
        house = day(house, shares, sign)
    return (tuple(tellings), house)
