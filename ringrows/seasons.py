"""Seasons [62]: several legs of one rule, one behind another."""

from ringrows.breaks import breaks_at
from ringrows.checks import check_size, check_team, contrary_marks, is_count, is_integer, is_list
from ringrows.counts import bound_of, seats_with
from ringrows.errors import InvalidCount, InvalidLegs, InvalidSize, TooMany
from ringrows.forms import fitted_form
from ringrows.seats import mark_of, rounds_of, stander_mark

LEAST_SIZE = 4
MOST_BEGIN = 3
MOST_LEGS = 4
MOST_ROUNDS = 1000


def season_rounds(size, legs):
    """The list of the numbers of the rounds of a season."""
    _check_any_size(size)
    _check_legs(legs)
    _check_length(size, legs)
    return [day for leg in legs for day in _days_of(size, leg)]


def season_row(rule, size, legs, team):
    """The string of the marks of a team along a season."""
    check_size(rule, size)
    _check_legs(legs)
    check_team(team, size)
    _check_length(size, legs)
    return "".join([_leg_row(rule, size, leg, team) for leg in legs])


def season_breaks(rule, size, legs):
    """The breaks of a season."""
    check_size(rule, size)
    _check_legs(legs)
    return _all_breaks(rule, size, legs)


def border_breaks(rule, size, legs, border):
    """How many teams have a break from the leg at a position to the next one."""
    check_size(rule, size)
    _check_legs(legs)
    if not is_count(border) or border >= len(legs) - 1:
        raise InvalidCount(border)
    return _breaks_between(rule, size, legs[border], legs[border + 1])


def season_form(rule, legs):
    """The reduced Form of the breaks of a season, by the number of places."""
    _check_legs(legs)
    first = rule.word.least
    period = len(rule.word.middle)
    # Behind its begin a leg comes to its last round, so two rounds next to each other lie from -1 to 4.
    begin = bound_of(rule, [rule.step, -rule.step * (MOST_BEGIN + 1)])
    values = [_all_breaks(rule, 2 * places + 2, legs) for places in range(first, begin + 3 * period)]
    return fitted_form(first, values, period)


def repeats(size, legs):
    """The ascending list of the positions of the legs whose last round is the first one of the next leg."""
    _check_any_size(size)
    _check_legs(legs)
    return [position for position in range(len(legs) - 1)
            if (_last_day(legs[position]) - legs[position + 1][0]) % (size - 1) == 0]


def pair_homes(rule, size, legs, one, other):
    """How often in a season one team meets another one and is at home."""
    check_size(rule, size)
    _check_legs(legs)
    # Each leg has each round just once.
    marks = [mark_of(rule, size, one, day) for day in rounds_of(rule, size, one, other)]
    return sum([marks.count("a" if leg[2] else "h") for leg in legs])


def _check_any_size(size):
    if not is_integer(size) or size < LEAST_SIZE or size % 2 != 0:
        raise InvalidSize(size)


def _check_legs(legs):
    if not is_list(legs) or len(legs) == 0:
        raise InvalidLegs(None)
    for position, leg in enumerate(legs):
        if not _is_leg(leg):
            raise InvalidLegs(position)
    if len(legs) > MOST_LEGS:
        raise TooMany("legs", MOST_LEGS)


def _is_leg(value):
    """Whether any value is a leg."""
    if not isinstance(value, tuple) or len(value) != 3:
        return False
    begin, way, exchanged = value
    if not is_count(begin) or begin > MOST_BEGIN:
        return False
    return is_integer(way) and abs(way) == 1 and isinstance(exchanged, bool)


def _check_length(size, legs):
    if len(legs) * (size - 1) > MOST_ROUNDS:
        raise TooMany("rounds", MOST_ROUNDS)


def _days_of(size, leg):
    """The numbers of the rounds of a leg."""
    begin, way, _ = leg
    return [(begin + way * later) % (size - 1) for later in range(size - 1)]


def _last_day(leg):
    """An INTEGER from -1 to 4 whose rest by the number of rounds is the last round of a leg."""
    return leg[0] - leg[1]


def _leg_row(rule, size, leg, team):
    """The marks of a team along a leg."""
    marks = "".join([mark_of(rule, size, team, day) for day in _days_of(size, leg)])
    return contrary_marks(marks) if leg[2] else marks


def _all_breaks(rule, size, legs):
    """The breaks within all legs, and between them."""
    # A leg goes round the ring of all rounds, but for the way from its last round to its first one.
    around = breaks_at(rule, size) + _with_equal_marks(rule, size, -1, 0, False)
    within = [around - _with_equal_marks(rule, size, _last_day(leg), leg[0], False) for leg in legs]
    between = [_breaks_between(rule, size, leg, behind) for leg, behind in zip(legs, legs[1:])]
    return sum(within) + sum(between)


def _breaks_between(rule, size, leg, behind):
    """How many teams have a break from a leg to the one behind it."""
    return _with_equal_marks(rule, size, _last_day(leg), behind[0], leg[2] != behind[2])


def _with_equal_marks(rule, size, one, other, exchanged):
    """How many teams have equal marks in two rounds, or contrary ones, if the marks of one are exchanged.

    The rounds are told by INTEGERS of which they are the rests, as near to 0 as may be, so that the bound is small.
    """
    days = (one % (size - 1), other % (size - 1))
    stander = stander_mark(rule, days[0]) != stander_mark(rule, days[1])
    count = 1 if stander == exchanged else 0
    for mark in ("h", "a"):
        facing = contrary_marks(mark) if exchanged else mark
        cells = [(-rule.step * one, days[0], mark), (-rule.step * other, days[1], facing)]
        count = count + seats_with(rule, size // 2 - 1, cells)
    return count
