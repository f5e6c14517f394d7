"""The papers of claims [92]: what shows that a claim is true."""

from ringrows.breaks import breaks_form, first_wasteful
from ringrows.counts import bound_of
from ringrows.forms import Form
from ringrows.mends import gauge_above, mend
from ringrows.polynomials import spread
from ringrows.seats import first_wrong
from ringrows.views import bound, first_more, first_seen, form_of

# The steps, without their signs, with which a rule is always right: 2 to the power of the position.
RIGHT_STEPS = (1, 2, 4)


def breaks_bound(rule):
    """The bound for the breaks of a rule [93]."""
    return bound_of(rule, [rule.step])


def paper_of(claim):
    """A paper of a claim, None if it is not true."""
    make = MAKERS[claim[0]]
    return make(claim)


def _seen_paper(claim):
    _, rule, picture = claim
    return first_seen(rule, picture)


def _never_paper(claim):
    _, rule, picture = claim
    return _long_form(rule, picture) if first_seen(rule, picture) is None else None


def _more_paper(claim):
    _, rule, picture, other = claim
    return first_more(rule, picture, other)


def _no_more_paper(claim):
    _, rule, picture, other = claim
    if first_more(rule, picture, other) is not None:
        return None
    return _long_form(rule, picture), _long_form(rule, other)


def _right_paper(claim):
    step = abs(claim[1].step)
    return RIGHT_STEPS.index(step) if step in RIGHT_STEPS else None


def _wrong_paper(claim):
    # Where a rule is not right, each two teams meet in several rounds, or in none.
    size = first_wrong(claim[1])
    return None if size is None else (size, 0, 1)


def _thrifty_paper(claim):
    rule = claim[1]
    return _told_long(rule, breaks_form(rule), breaks_bound(rule)) if first_wasteful(rule) is None else None


def _wasteful_paper(claim):
    return first_wasteful(claim[1])


def _mended_paper(claim):
    _, table, fixed, many = claim
    told = mend(table, fixed)
    return told if told is not None and len(told) <= many else None


def _unmended_paper(claim):
    _, table, fixed, many = claim
    return gauge_above(table, fixed, many)


MAKERS = {"seen": _seen_paper, "never": _never_paper, "more": _more_paper, "no more": _no_more_paper,
          "right": _right_paper, "wrong": _wrong_paper, "thrifty": _thrifty_paper, "wasteful": _wasteful_paper,
          "mended": _mended_paper, "unmended": _unmended_paper}


def _long_form(rule, picture):
    """The form of a picture, told at such length that it is judged."""
    return _told_long(rule, form_of(rule, picture), bound(rule, picture))


def _told_long(rule, form, begin):
    """A form with the same values that begins at a bound, or behind it, and has a row for each mark of the middle."""
    early = [form(places) for places in range(form.first, begin)]
    # The begin and the rows of a reduced form are at most so many, and its rows divide these [55].
    return Form(form.first, early, spread(form.rows(), len(rule.word.middle)))
