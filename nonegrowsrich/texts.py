"""Texts: expressions, doubters, houses and shares written and read.

What takes reads words or lines from a place on: it tells what stands there and the place behind it, or refuses with
NoText.
"""

from nonegrowsrich.doubters import DEEDS, is_doubter
from nonegrowsrich.errors import NoText
from nonegrowsrich.expressions import SHAPES, is_expression
from nonegrowsrich.houses import is_house
from nonegrowsrich.numerals import read_numeral, show_numeral
from nonegrowsrich.shares import is_shares

# Nothing that is written is nested deeper; what is less deep and still too deep is seen by what it is read as.
DEEPEST = 8


def expression_words(expression):
    """The words that write an expression."""
    words = [expression[0]]
    for kind, item in zip(SHAPES[expression[0]], expression[1:]):
        words.extend(expression_words(item) if kind == "part" else [show_numeral(item)])
    return words


def deed_words(deed):
    """The words that write a deed."""
    words = [deed[0]]
    for kind, item in zip(DEEDS[deed[0]], deed[1:]):
        words.extend(["("] + deeds_words(item) + [")"] if kind == "part" else [show_numeral(item)])
    return words


def deeds_words(deeds):
    """The words that write deeds."""
    return [word for deed in deeds for word in deed_words(deed)]


def doubter_lines(doubter):
    """The lines that write a doubter."""
    name, scale, begins, stakes, behinds = doubter
    head = ["doubter", name] + [show_numeral(number) for number in (scale,) + begins]
    rows = [head]
    rows.extend([["stake"] + expression_words(stake) for stake in stakes])
    rows.extend([["behind"] + deeds_words(deeds) for deeds in behinds])
    return [" ".join(row) for row in rows]


def member_lines(member):
    """The lines that write a member."""
    if member[0] == "house":
        word, name, members = member
        return ["in " + name] + members_lines(members) + ["out"]
    word, doubter, registers, weight, held, owed, active, got = member
    numbers = (weight, held, owed, active, got) + registers
    head = " ".join(["one"] + [show_numeral(number) for number in numbers])
    return [head] + doubter_lines(doubter)


def members_lines(members):
    """The lines that write members."""
    return [line for member in members for line in member_lines(member)]


def show_expression(expression):
    """The expression's text."""
    return " ".join(expression_words(expression))


def show_doubter(doubter):
    """The doubter's text."""
    return "\n".join(doubter_lines(doubter))


def show_house(house):
    """The house's text."""
    many, members = house
    return "\n".join(["house " + show_numeral(many)] + members_lines(members))


def show_shares(shares):
    """The shares' text."""
    return ":".join([show_numeral(number) for number in shares])


def parts_of(text, between):
    """The parts of a text, of anything, that stand between."""
    if not isinstance(text, str):
        raise NoText("it is no text")
    return text.split(between)


def number_of(word):
    """The number that a word writes."""
    number = read_numeral(word)
    if number is None:
        raise NoText("a number is written otherwise")
    return number


def word_at(words, at):
    """The word at a place, an empty one behind the last."""
    return words[at] if at < len(words) else ""


def need(is_so):
    """Refuses where it isn't so."""
    if not is_so:
        raise NoText("nothing is written so")


def take_shaped(words, at, shape, deep, take_part):
    """What stands behind a word of the shape, with that word, and the place behind it."""
    made = [words[at]]
    at += 1
    for kind in shape:
        if kind == "part":
            item, at = take_part(words, at, deep - 1)
        else:
            item, at = number_of(word_at(words, at)), at + 1
        made.append(item)
    return (tuple(made), at)


def take_expression(words, at, deep):
    """An expression, and the place behind it."""
    word = word_at(words, at)
    need(deep > 0 and word in SHAPES)
    return take_shaped(words, at, SHAPES[word], deep, take_expression)


def take_bracketed(words, at, deep):
    """Deeds in brackets, and the place behind them."""
    need(word_at(words, at) == "(")
    deeds, at = take_deeds(words, at + 1, deep)
    need(word_at(words, at) == ")")
    return (deeds, at + 1)


def take_deed(words, at, deep):
    """A deed, and the place behind it."""
    word = word_at(words, at)
    need(word in DEEDS)
    return take_shaped(words, at, DEEDS[word], deep, take_bracketed)


def take_deeds(words, at, deep):
    """All deeds up to a closing bracket or the end, and the place behind them."""
    need(deep > 0)
    deeds = []
    while at < len(words) and words[at] != ")":
        deed, at = take_deed(words, at, deep)
        deeds.append(deed)
    return (tuple(deeds), at)


def expression_of(words):
    """The expression that all words together write."""
    expression, at = take_expression(words, 0, DEEPEST)
    need(at == len(words))
    return expression


def deeds_of(words):
    """The deeds that all words together write."""
    deeds, at = take_deeds(words, 0, DEEPEST)
    need(at == len(words))
    return deeds


def words_behind(lines, at, first):
    """The words behind the first one of the line at a place."""
    words = word_at(lines, at).split(" ")
    need(words[0] == first)
    return words[1:]


def take_doubter(lines, at, many):
    """A doubter, and the place behind it."""
    head = words_behind(lines, at, "doubter")
    need(len(head) == 6)
    numbers = [number_of(word) for word in head[1:]]
    stakes = [expression_of(words_behind(lines, at + 1 + sign, "stake")) for sign in range(many)]
    behinds = [deeds_of(words_behind(lines, at + 1 + many + sign, "behind")) for sign in range(many)]
    doubter = (head[0], numbers[0], tuple(numbers[1:]), tuple(stakes), tuple(behinds))
    return (doubter, at + 1 + 2 * many)


def take_one(lines, at, many):
    """A one, and the place behind it."""
    numbers = [number_of(word) for word in words_behind(lines, at, "one")]
    need(len(numbers) == 9)
    doubter, behind = take_doubter(lines, at + 1, many)
    return (("one", doubter, tuple(numbers[5:])) + tuple(numbers[:5]), behind)


def take_inner(lines, at, many, deep):
    """A house in a house, and the place behind it."""
    head = words_behind(lines, at, "in")
    need(len(head) == 1)
    members, behind = take_members(lines, at + 1, many, deep - 1)
    need(word_at(lines, behind) == "out")
    return (("house", head[0], members), behind + 1)


def take_members(lines, at, many, deep):
    """All members up to where their house ends, and the place behind them."""
    need(deep > 0)
    members = []
    while at < len(lines) and lines[at] != "out":
        if lines[at].startswith("in "):
            member, at = take_inner(lines, at, many, deep)
        else:
            member, at = take_one(lines, at, many)
        members.append(member)
    return (tuple(members), at)


def read_expression(text, many):
    """The expression of so many signs that the text, of anything, writes."""
    expression = expression_of(parts_of(text, " "))
    need(is_expression(expression, many))
    return expression


def read_doubter(text, many):
    """The doubter of so many signs that the text, of anything, writes."""
    lines = parts_of(text, "\n")
    doubter, at = take_doubter(lines, 0, many)
    need(at == len(lines) and is_doubter(doubter, many))
    return doubter


def read_house(text):
    """The house that the text, of anything, writes."""
    lines = parts_of(text, "\n")
    head = words_behind(lines, 0, "house")
    need(head == ["2"] or head == ["3"])
    many = number_of(head[0])
    members, at = take_members(lines, 1, many, DEEPEST)
    need(at == len(lines) and is_house((many, members)))
    return (many, members)


def read_shares(text, many):
    """The shares of so many signs that the text, of anything, writes."""
    shares = tuple([number_of(word) for word in parts_of(text, ":")])
    need(is_shares(shares, many))
    return shares
