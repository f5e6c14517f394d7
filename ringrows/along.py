"""One team of a rule along its rounds [71], at any size, without going through them."""

from ringrows.checks import check_day, check_size, check_team, is_count
from ringrows.errors import InvalidCount, InvalidNumber
from ringrows.pieces import OTHER, SAME, likeness, position_of, times_until
from ringrows.seats import STANDER_MARKS, mark_of

# A middle has one to four marks, and rounds are odd or even by turns: so its marks come again after twelve rounds.
MARKS_TOLD = 12


def homes_until(rule, size, team, rounds):
    """In how many of its first so many rounds a team is at home."""
    _check(rule, size, team)
    _check_rounds(size, rounds)
    return times_until(_row(rule, size, team), "h", rounds)


def breaks_until(rule, size, team, rounds):
    """How many breaks a team has among its first so many rounds."""
    _check(rule, size, team)
    _check_rounds(size, rounds)
    return times_until(likeness(_row(rule, size, team)), SAME, max(0, rounds - 1))


def home_round(rule, size, team, number):
    """The round in which a team is at home for the number-th time, None if there is none."""
    _check(rule, size, team)
    _check_number(number)
    return position_of(_row(rule, size, team), "h", number)


def break_round(rule, size, team, number):
    """The earlier one of the two rounds of the number-th break of a team, None if there is none."""
    _check(rule, size, team)
    _check_number(number)
    return position_of(likeness(_row(rule, size, team)), SAME, number)


def stay_at(rule, size, team, day):
    """The first and the last round of the stay in which a round of a team lies."""
    _check(rule, size, team)
    check_day(day, size - 1)
    alike = likeness(_row(rule, size, team))
    ended = times_until(alike, OTHER, day)
    first = 0 if ended == 0 else position_of(alike, OTHER, ended) + 1
    return first, position_of(alike, OTHER, ended + 1)


def _check(rule, size, team):
    check_size(rule, size)
    check_team(team, size)


def _check_rounds(size, rounds):
    if not is_count(rounds) or rounds > size - 1:
        raise InvalidCount(rounds)


def _check_number(number):
    if not is_count(number) or number == 0:
        raise InvalidNumber(number)


def _row(rule, size, team):
    """The row of a team in pieces."""
    ring = size - 1
    if team == ring:
        return [(ring, STANDER_MARKS[rule.stander])]
    # Seats are told on the side to which the team goes on, so that it always goes on by a step above 0.
    step = abs(rule.step)
    begin = team if rule.step < 0 else -team % ring
    told = []
    for lap in range(step + 1):
        for low, high in _stretches(rule.word, size // 2 - 1):
            first = max(0, -((begin - lap * ring - low) // step))
            last = min(ring - 1, (lap * ring + high - begin) // step)
            if first <= last:
                told.append((last - first + 1, _marks_from(rule, size, team, first, last)))
    return told


def _stretches(word, places):
    """The first and the last seat of seat 0, head, middle and tail, and of tail, middle and head of the other side.

    The seats are told by their rests; a stretch without a seat has a last one ahead of its first one.
    """
    head = len(word.head)
    inner = places - len(word.tail)
    lasts = [0, head, inner, places, 2 * places - inner, 2 * places - head, 2 * places]
    return list(zip([0] + [last + 1 for last in lasts], lasts))


def _marks_from(rule, size, team, first, last):
    """The marks of a team in the first twelve of some rounds, all of them on one stretch."""
    behind = min(last + 1, first + MARKS_TOLD)
    return "".join([mark_of(rule, size, team, day) for day in range(first, behind)])
