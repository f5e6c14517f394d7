"""Claims, and whether a paper shows that one is true [92], [93]."""

from ringrows.breaks import breaks_at
from ringrows.checks import is_count, is_integer, is_list, is_size
from ringrows.errors import InvalidClaim
from ringrows.forms import Form, first_above, same_values
from ringrows.lines import is_single
from ringrows.mends import is_mend, shown
from ringrows.papers import RIGHT_STEPS, breaks_bound, paper_of
from ringrows.pictures import Picture
from ringrows.rules import Rule
from ringrows.seats import rounds_of
from ringrows.tables import Table, are_meetings
from ringrows.views import bound, is_seen, number_at

MOST_BEGIN = 200
MOST_PERIOD = 24
# How many pictures stand in a claim about a rule.
PICTURES = {"seen": 1, "never": 1, "more": 2, "no more": 2, "right": 0, "wrong": 0, "thrifty": 0, "wasteful": 0}


def is_claim(value):
    """Whether any value is a claim."""
    if not isinstance(value, tuple) or len(value) < 2 or not isinstance(value[0], str):
        return False
    if value[0] in ("mended", "unmended"):
        return len(value) == 4 and _is_league(value[1], value[2]) and is_count(value[3])
    if value[0] not in PICTURES or len(value) != PICTURES[value[0]] + 2:
        return False
    return isinstance(value[1], Rule) and all([isinstance(part, Picture) for part in value[2:]])


def is_true(claim):
    """Whether a claim is true."""
    _check_claim(claim)
    return paper_of(claim) is not None


def paper(claim):
    """A paper of a claim, None if it is not true."""
    _check_claim(claim)
    return paper_of(claim)


def is_paper(claim, value):
    """Whether any value is a paper of a claim."""
    _check_claim(claim)
    judged = JUDGES[claim[0]]
    return judged(claim, value)


def is_right_form(rule, picture, value):
    """Whether any value is a Form that is right for a picture of a rule."""
    return _can_be_judged(rule, bound(rule, picture), value) and all(
        [value(places) == number_at(rule, 2 * places + 2, picture) for places in _places_judged(value)])


def is_right_for_breaks(rule, value):
    """Whether any value is a Form that is right for the breaks of a rule."""
    return _can_be_judged(rule, breaks_bound(rule), value) and all(
        [value(places) == breaks_at(rule, 2 * places + 2) for places in _places_judged(value)])


def _check_claim(claim):
    if not is_claim(claim):
        raise InvalidClaim(claim)


def _is_league(table, fixed):
    """Whether any two values are a single Table and a list of fixed meetings of it."""
    return isinstance(table, Table) and is_single(table) and are_meetings(table, fixed)


def _can_be_judged(rule, least, value):
    """Whether any value is a Form that is long enough to be judged, with a begin of at least so many places."""
    if not isinstance(value, Form) or value.first != rule.word.least:
        return False
    if value.begin < least or value.begin > MOST_BEGIN:
        return False
    return value.period <= MOST_PERIOD and value.period % len(rule.word.middle) == 0


def _places_judged(form):
    """The list of the places whose values tell whether a form is right."""
    return list(range(form.first, form.begin + 3 * form.period))


def _has_size_and_two(rule, value):
    """Whether any value is a tuple of a size of a rule and two COUNTS below it."""
    if not isinstance(value, tuple) or len(value) != 3 or not is_size(rule, value[0]):
        return False
    return all([is_count(part) and part < value[0] for part in value[1:]])


def _is_seen_paper(claim, value):
    _, rule, picture = claim
    if not _has_size_and_two(rule, value):
        return False
    size, day, team = value
    # No round, and no team of the ring, has the greatest one of these numbers.
    return day < size - 1 and team < size - 1 and is_seen(rule, size, picture, day, team)


def _is_never_paper(claim, value):
    _, rule, picture = claim
    return is_right_form(rule, picture, value) and same_values(value, Form(value.first, [], [(0, 0, 0)]))


def _is_more_paper(claim, value):
    _, rule, picture, other = claim
    return is_size(rule, value) and number_at(rule, value, picture) > number_at(rule, value, other)


def _is_no_more_paper(claim, value):
    _, rule, picture, other = claim
    if not isinstance(value, tuple) or len(value) != 2:
        return False
    form, above = value
    if not is_right_form(rule, picture, form) or not is_right_form(rule, other, above):
        return False
    return first_above(form - above, 0) is None


def _is_right_paper(claim, value):
    return is_count(value) and value < len(RIGHT_STEPS) and RIGHT_STEPS[value] == abs(claim[1].step)


def _is_wrong_paper(claim, value):
    if not _has_size_and_two(claim[1], value):
        return False
    size, one, other = value
    return one < other and len(rounds_of(claim[1], size, one, other)) != 1


def _is_thrifty_paper(claim, value):
    return is_right_for_breaks(claim[1], value) and same_values(value, Form(value.first, [], [(0, 2, 0)]))


def _is_wasteful_paper(claim, value):
    return is_size(claim[1], value) and breaks_at(claim[1], value) != value - 2


def _is_mended_paper(claim, value):
    _, table, fixed, many = claim
    return is_mend(table, fixed, value) and len(value) <= many


def _is_unmended_paper(claim, value):
    _, table, fixed, many = claim
    if not is_list(value) or len(value) != table.size or not all([is_integer(height) for height in value]):
        return False
    return shown(table, fixed, value) > many


JUDGES = {"seen": _is_seen_paper, "never": _is_never_paper, "more": _is_more_paper, "no more": _is_no_more_paper,
          "right": _is_right_paper, "wrong": _is_wrong_paper, "thrifty": _is_thrifty_paper,
          "wasteful": _is_wasteful_paper, "mended": _is_mended_paper, "unmended": _is_unmended_paper}
