"""A desk: a keeper that is asked by lines, and answers by texts."""

from nonegrowsrich.chances import off, sure
from nonegrowsrich.errors import NoLine, NoPlace, NoText
from nonegrowsrich.houses import is_right, motes, ones, pull
from nonegrowsrich.keeper import Keeper
from nonegrowsrich.numerals import read_numeral, show_numeral
from nonegrowsrich.texts import read_doubter, read_shares, show_house, show_shares


def whole_of(word):
    """The number from 0 on that the word writes."""
    number = read_numeral(word)
    if number is None or number < 0:
        raise NoLine("a number is written otherwise")
    return number


def path_of(word):
    """The path that the word writes."""
    if word == "-":
        return ()
    return tuple([whole_of(part) for part in word.split(".")])


def shares_of(word, many):
    """The shares that the word writes."""
    try:
        return read_shares(word, many)
    except NoText:
        raise NoLine("no shares are written so") from None


def doubter_of(word, many):
    """The doubter that the word, of blanks and semicolons too, writes."""
    try:
        return read_doubter(word.replace(";", "\n"), many)
    except NoText:
        raise NoLine("no doubter is written so") from None


def value_of(kind, word, many):
    """What a word of a line writes, by its kind."""
    if kind == "path":
        return path_of(word)
    if kind == "number":
        return whole_of(word)
    if kind == "shares":
        return shares_of(word, many)
    return doubter_of(word, many) if kind == "doubter" else word


def show_path(path):
    """The path's text."""
    return ".".join([show_numeral(number) for number in path]) if path else "-"


def show_numbers(numbers):
    """The numbers' text."""
    return " ".join([show_numeral(number) for number in numbers])


def one_at(house, path):
    """The one that stands at the path."""
    for place, one in ones(house):
        if place == path:
            return one
    raise NoPlace(path)


def say_found(keeper, path, name):
    """The path of the house that joined."""
    return show_path(keeper.found(path, name))


def say_join(keeper, path, weight, doubter):
    """The path of the one that joined."""
    return show_path(keeper.join(path, doubter, weight))


def say_leave(keeper, path):
    """The motes that left."""
    return show_numeral(keeper.leave(path))


def say_tell(keeper, shares=None):
    """The shares told, or none."""
    told = keeper.tell(shares)
    return "none" if told is None else show_shares(told)


def say_see(keeper, sign):
    """The motes behind the day."""
    return show_numeral(keeper.see(sign))


def say_untell(keeper):
    """That it is done."""
    keeper.untell()
    return "done"


def say_back(keeper):
    """The word of the deed taken back."""
    return keeper.back()


def say_motes(keeper):
    """The motes of the house."""
    return show_numeral(motes(keeper.house()))


def say_moved(keeper):
    """The motes that joined and those that left."""
    return show_numbers(keeper.moved())


def say_pull(keeper, shares):
    """The pulls at the shares."""
    return show_numbers(pull(keeper.house(), shares))


def say_right(keeper, shares):
    """Whether the shares are right."""
    return "yes" if is_right(keeper.house(), shares) else "no"


def say_off(keeper, path):
    """How far off the one is."""
    return show_numeral(off(one_at(keeper.house(), path)))


def say_sure(keeper, path):
    """How far off the one surely is at most, or none."""
    most = sure(one_at(keeper.house(), path))
    return "none" if most is None else show_numeral(most)


def say_days(keeper):
    """How many days were seen."""
    return show_numeral(len(keeper.rows()))


def say_show(keeper):
    """The house's text in one line."""
    return show_house(keeper.house()).replace("\n", ";")


# What stands behind each word of a line, in order; tell may stand alone, too.
KINDS = {
    "found": ("path", "name"),
    "join": ("path", "number", "doubter"),
    "leave": ("path",),
    "tell": ("shares",),
    "see": ("number",),
    "untell": (),
    "back": (),
    "motes": (),
    "moved": (),
    "pull": ("shares",),
    "right": ("shares",),
    "off": ("path",),
    "sure": ("path",),
    "days": (),
    "show": (),
}

ACTIONS = {
    "found": say_found,
    "join": say_join,
    "leave": say_leave,
    "tell": say_tell,
    "see": say_see,
    "untell": say_untell,
    "back": say_back,
    "motes": say_motes,
    "moved": say_moved,
    "pull": say_pull,
    "right": say_right,
    "off": say_off,
    "sure": say_sure,
    "days": say_days,
    "show": say_show,
}


def line_words(line):
    """The words of a line, of anything; a doubter's text is one of them."""
    if not isinstance(line, str) or "\n" in line:
        raise NoLine("it is no line")
    words = line.split(" ")
    return words[:3] + [" ".join(words[3:])] if words[0] == "join" and len(words) > 3 else words


def line_values(words, many):
    """What the words behind the first one of a line write."""
    if words == ["tell"]:
        return []
    if words[0] not in KINDS or len(words) - 1 != len(KINDS[words[0]]):
        raise NoLine("no line is so")
    return [value_of(kind, word, many) for kind, word in zip(KINDS[words[0]], words[1:])]


class Desk:
    """A keeper that is asked by lines."""

    def __init__(self, many):
        self.keeper = Keeper(many)

    def say(self, line):
        """What the keeper tells, as a text."""
        words = line_words(line)
        many, members = self.keeper.house()
        values = line_values(words, many)
        action = ACTIONS[words[0]]
        return action(self.keeper, *values)
