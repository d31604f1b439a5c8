"""Pulls over cells: how hard all ones of a house together pull on each sign, everywhere at once.

A pull is (form, terms): what is straight of it, and (factor, bend) of all that isn't. Pulls are one for each sign.
"""

from nonegrowsrich.bends import bend_of, reach, scaled_ends, settled
from nonegrowsrich.cells import heights_on, signs_on
from nonegrowsrich.forms import flat_form, less_form, scale_form, sum_form
from nonegrowsrich.houses import one_factor, ones


def stake_terms(one, sign, many):
    """The terms of a one's stake on the sign; none of a one without motes."""
    factor = one_factor(one)
    name, scale, begins, stakes, behinds = one[1]
    return [(factor, bend_of(stakes[sign], one[2], many))] if factor else []


def pulls_of(house):
    """The pulls of the house, over all shares."""
    many, members = house
    inside = [one for path, one in ones(house)]
    return [
        (flat_form(0, many), [term for one in inside for term in stake_terms(one, sign, many)])
        for sign in range(many)
    ]


def settled_pull(pull, cell):
    """(pull, lines): the pull as it is over the cell, straight where no lines are left that part it there."""
    form, terms = pull
    rest, lines = [], []
    for factor, bend in terms:
        now, more = settled(bend, cell)
        if more:
            rest.append((factor, now))
            lines.extend(more)
        else:
            form = sum_form(form, scale_form(factor, now[1]))
    return ((form, rest), lines)


def settled_pulls(pulls, cell):
    """(pulls, lines), as settled_pull."""
    found = [settled_pull(pull, cell) for pull in pulls]
    return ([pull for pull, lines in found], [line for pull, lines in found for line in lines])


def terms_reach(terms, turn, cell):
    """(low, high), in fine parts, that the terms together, times turn, stay within over the cell."""
    reaches = [scaled_ends(turn * factor, reach(bend, cell)) for factor, bend in terms]
    return (sum([low for low, high in reaches]), sum([high for low, high in reaches]))


def gap(first, second, cell):
    """(low, high) that the first pull without the second stays within over the cell, in parts of any one size.

    Of straight pulls both are reached at the cell's corners; else they may lie further out.
    """
    form, terms = first
    other_form, other_terms = second
    difference = less_form(form, other_form)
    if not terms and not other_terms:
        heights = heights_on(cell, difference)
        return (min(heights), max(heights))
    reaches = [
        reach(("straight", difference), cell),
        terms_reach(terms, 1, cell),
        terms_reach(other_terms, -1, cell),
    ]
    return (sum([low for low, high in reaches]), sum([high for low, high in reaches]))


def gaps(pulls, sign, cell):
    """The gaps of the sign's pull to those of all signs."""
    # Its own pull is just alike, however it bends.
    return [(0, 0) if place == sign else gap(pulls[sign], pull, cell) for place, pull in enumerate(pulls)]


def answers(row, present, straight):
    """Whether a sign of these gaps surely answers a cell: its pull is greatest, and above one of a sign with shares."""
    if any([low < 0 for low, high in row]):
        return False
    # Straight gaps are above 0 inside where they are so at one corner and below 0 at none.
    return any([row[sign][1 if straight else 0] > 0 for sign in present])


def answering(pulls, cell):
    """The signs that surely answer all shares in the cell; of straight pulls, all that do."""
    present = signs_on(cell)
    straight = not any([terms for form, terms in pulls])
    return [sign for sign in range(len(pulls)) if answers(gaps(pulls, sign, cell), present, straight)]
