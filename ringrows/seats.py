"""Who sits where, who meets whom, and who is at home, at any size of a rule [32] to [34]."""

from math import gcd

from ringrows.checks import check_day, check_pair, check_size, check_team, contrary_marks

# The marks of the standing team in the even and in the odd rounds.
STANDER_MARKS = {"home": "hh", "away": "aa", "even": "ha", "odd": "ah"}


def seat(rule, size, team, day):
    """The seat of a team of the ring in a round."""
    check_size(rule, size)
    check_team(team, size - 1)
    check_day(day, size - 1)
    return _seat(rule, size, team, day)


def opponent(rule, size, team, day):
    """The team that a team meets in a round."""
    _check(rule, size, team, day)
    if team == size - 1:
        return rule.step * day % (size - 1)
    facing = (2 * rule.step * day - team) % (size - 1)
    # Only the team with the seat 0 would face itself.
    return size - 1 if facing == team else facing


def mark_of(rule, size, team, day):
    """The mark of a team in a round."""
    _check(rule, size, team, day)
    if team == size - 1:
        return stander_mark(rule, day)
    return _mark_at(rule, size, _seat(rule, size, team, day), day)


def rounds_of(rule, size, one, other):
    """The ascending list of the rounds in which two teams meet."""
    check_size(rule, size)
    check_pair(one, other, size)
    if one == size - 1:
        return _rounds_at(rule.step, other, size - 1)
    if other == size - 1:
        return _rounds_at(rule.step, one, size - 1)
    return _rounds_at(2 * rule.step, one + other, size - 1)


def is_right(rule, size):
    """Whether each two teams meet in just one round."""
    check_size(rule, size)
    return _is_right(rule, size)


def is_always_right(rule):
    """Whether a rule is right at all its sizes."""
    return abs(rule.step) in (1, 2, 4)


def first_wrong(rule):
    """The least size at which a rule is not right, None if there is none."""
    if is_always_right(rule):
        return None
    size = rule.least_size
    while _is_right(rule, size):
        size = size + 2
    return size


def stander_mark(rule, day):
    """The mark of the standing team in a round."""
    return STANDER_MARKS[rule.stander][day % 2]


def ring_marks(rule, places, day):
    """The marks at the seats 0, 1 to places, and then -places to -1, in a round."""
    marks = _turned_if(rule, day, rule.word.row(places))
    return contrary_marks(stander_mark(rule, day)) + marks + contrary_marks(marks[::-1])


def _check(rule, size, team, day):
    check_size(rule, size)
    check_team(team, size)
    check_day(day, size - 1)


def _seat(rule, size, team, day):
    place = (team - rule.step * day) % (size - 1)
    return place if place < size // 2 else place - (size - 1)


def _mark_at(rule, size, at, day):
    """The mark at a seat in a round."""
    if at == 0:
        return contrary_marks(stander_mark(rule, day))
    mark = _turned_if(rule, day, rule.word.mark(size // 2 - 1, abs(at)))
    return mark if at > 0 else contrary_marks(mark)


def _turned_if(rule, day, marks):
    """The marks of places in a round: their contraries in the odd rounds of a rule that is turned."""
    return contrary_marks(marks) if rule.turned and day % 2 == 1 else marks


def _rounds_at(step, places, ring):
    """The ascending list of the rounds r with a multiple of ring as places - step * r."""
    steps = abs(step)
    rest = places % ring if step > 0 else -places % ring
    # steps * r, for r below ring, is one of the INTEGERS below steps * ring with this rest.
    goals = [rest + ring * lap for lap in range(steps)]
    return [goal // steps for goal in goals if goal % steps == 0]


def _is_right(rule, size):
    return gcd(abs(rule.step), size - 1) == 1
