"""The breaks of a rule, at one size and at all of them [61]."""

from ringrows.checks import check_size
from ringrows.forms import Form, first_unlike
from ringrows.pictures import Picture
from ringrows.views import form_of, number_at

# How many breaks the standing team has, for each place there is.
STANDER_BREAKS = {"home": 2, "away": 2, "even": 0, "odd": 0}


def breaks_at(rule, size):
    """The breaks of a rule at a size."""
    check_size(rule, size)
    in_ring = number_at(rule, size, _twice("h")) + number_at(rule, size, _twice("a"))
    return in_ring + STANDER_BREAKS[rule.stander] * (size // 2 - 1)


def breaks_form(rule):
    """The reduced Form of the breaks of a rule, by the number of places."""
    in_ring = form_of(rule, _twice("h")) + form_of(rule, _twice("a"))
    return in_ring + _by_places(rule, STANDER_BREAKS[rule.stander])


def is_thrifty(rule):
    """Whether a rule is thrifty at all its sizes."""
    return first_wasteful(rule) is None


def first_wasteful(rule):
    """The least size at which a rule is not thrifty, None if there is none."""
    places = first_unlike(breaks_form(rule), _by_places(rule, 2))
    return None if places is None else 2 * places + 2


def _twice(mark):
    """The Picture of a break with this mark."""
    return Picture([(0, 0, mark), (0, 1, mark)])


def _by_places(rule, many):
    """The Form of so many for each place."""
    return Form(rule.word.least, [], [(0, many, 0)])
