"""Forms: a number for each sign; a form's worth at shares is the sum of its numbers times theirs."""

from nonegrowsrich.shares import common_part


def form_at(form, shares):
    """The form's worth at the shares."""
    return sum([weight * number for weight, number in zip(form, shares)])


def scale_form(factor, form):
    """The form, each number times the factor."""
    return tuple([factor * weight for weight in form])


def less_form(first, second):
    """The first form without the second."""
    return tuple([one - other for one, other in zip(first, second)])


def sum_form(first, second):
    """Both forms together."""
    return tuple([one + other for one, other in zip(first, second)])


def flat_form(figure, many):
    """The form that is worth figure by n at all shares."""
    return (figure,) * many


def share_form(sign, many):
    """The form that is worth 1000 times the sign's number."""
    return tuple([1000 if place == sign else 0 for place in range(many)])


def short_form(form):
    """The form in the least numbers that have the same sign at all shares."""
    part = common_part([abs(weight) for weight in form])
    return tuple([weight // part for weight in form]) if part > 1 else form
