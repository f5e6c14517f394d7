"""What values are: INTEGERS, COUNTS, lists and MARKS; and the errors of parameters that many functions have."""

from ringrows.errors import InvalidRound, InvalidSize, InvalidTeam

CONTRARIES = {"h": "a", "a": "h"}


def is_integer(value):
    """Whether any value is an INTEGER: an int, but no bool."""
    return isinstance(value, int) and not isinstance(value, bool)


def is_count(value):
    """Whether any value is an INTEGER that is at least 0."""
    return is_integer(value) and value >= 0


def is_list(value):
    """Whether any value may be passed where a list is told."""
    return isinstance(value, (list, tuple))


def is_mark(value):
    """Whether any value is a mark."""
    return isinstance(value, str) and value in CONTRARIES


def is_marks(value):
    """Whether any value is a string of marks, the empty one included."""
    return isinstance(value, str) and value.count("h") + value.count("a") == len(value)


def contrary_marks(marks):
    """The string of the contraries of all marks."""
    return "".join([CONTRARIES[mark] for mark in marks])


def is_size(rule, value):
    """Whether any value is one of the sizes of a Rule."""
    return is_integer(value) and value >= rule.least_size and value % 2 == 0


def check_size(rule, size):
    """Refuses any value that is none of the sizes of a Rule."""
    if not is_size(rule, size):
        raise InvalidSize(size)


def check_team(team, teams):
    """Refuses any value that is none of the first so many teams."""
    if not is_count(team) or team >= teams:
        raise InvalidTeam(team)


def check_pair(one, other, teams):
    """Refuses any two values that are not two different ones of the first so many teams."""
    check_team(one, teams)
    check_team(other, teams)
    if one == other:
        raise InvalidTeam(other)


def check_day(day, rounds):
    """Refuses any value that is none of so many rounds."""
    if not is_count(day) or day >= rounds:
        raise InvalidRound(day)
