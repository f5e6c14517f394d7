"""Where pictures are seen [52], and how often: at one size, and at all of them."""

from ringrows.checks import check_day, check_size, check_team
from ringrows.counts import bound_of, seats_with
from ringrows.forms import above_from, first_above, fitted_form
from ringrows.seats import mark_of


def is_seen(rule, size, picture, day, team):
    """Whether a picture is seen at a round and a team of the ring."""
    check_size(rule, size)
    check_day(day, size - 1)
    check_team(team, size - 1)
    return _has_room(size, picture, day) and _is_seen(rule, size, picture, day, team)


def number_in(rule, size, picture, day):
    """At how many teams a picture is seen in a round."""
    check_size(rule, size)
    check_day(day, size - 1)
    if not _has_room(size, picture, day):
        return 0
    return _teams(rule, size // 2 - 1, picture, day % 2)


def number_at(rule, size, picture):
    """The number of a picture at a size."""
    check_size(rule, size)
    return _number(rule, size // 2 - 1, picture)


def bound(rule, picture):
    """The bound of a picture for a rule [55]."""
    return bound_of(rule, [team - rule.step * later for team, later, _ in picture.cells])


def form_of(rule, picture):
    """The form of a picture for a rule [54]."""
    first = rule.word.least
    period = len(rule.word.middle)
    end = bound(rule, picture) + 3 * period
    return fitted_form(first, [_number(rule, places, picture) for places in range(first, end)], period)


def first_seen(rule, picture):
    """The least size at which a picture is seen, the first round there and the least team; None if it never is."""
    places = first_above(form_of(rule, picture), 0)
    if places is None:
        return None
    size = 2 * places + 2
    # All even rounds are alike, and so are all odd ones [53].
    day = 0 if _teams(rule, places, picture, 0) > 0 else 1
    teams = [team for team in range(size - 1) if _is_seen(rule, size, picture, day, team)]
    return size, day, teams[0]


def first_more(rule, picture, other):
    """The least size at which a picture has a greater number than another one, None if there is none."""
    return _size_of(first_above(form_of(rule, picture) - form_of(rule, other), 0))


def more_from(rule, picture, other):
    """The least size from which on a picture has a greater number than another one, None if there is none."""
    return _size_of(above_from(form_of(rule, picture) - form_of(rule, other), 0))


def seen_sizes(rule, picture):
    """Yields all sizes at which a picture is seen, ascending."""
    form = form_of(rule, picture)
    # A reduced form whose rows are not 0 everywhere is above 0 again and again, as numbers are COUNTS.
    is_endless = form.rows() != [(0, 0, 0)]
    places = form.first
    while is_endless or places < form.begin:
        if form(places) > 0:
            yield 2 * places + 2
        places = places + 1


def _size_of(places):
    """The size with so many places, or None for None."""
    return None if places is None else 2 * places + 2


def _has_room(size, picture, day):
    """Whether all rounds of a picture that begins in a round are rounds of the league."""
    return day + picture.span <= size - 2


def _is_seen(rule, size, picture, day, team):
    """Whether a picture is seen at a team of the ring, and at a round in which it has room."""
    ring = size - 1
    return all([mark_of(rule, size, (team + ahead) % ring, day + later) == mark
                for ahead, later, mark in picture.cells])


def _number(rule, places, picture):
    """The number of a picture at the size with so many places."""
    rounds = 2 * places + 1 - picture.span
    in_odd = rounds // 2 * _teams(rule, places, picture, 1)
    return (rounds - rounds // 2) * _teams(rule, places, picture, 0) + in_odd


def _teams(rule, places, picture, day):
    """At how many teams a picture is seen in each round with room for it that is even or odd, as the day is."""
    cells = [(team - rule.step * later, day + later, mark) for team, later, mark in picture.cells]
    return seats_with(rule, places, cells)
