"""Tables [41]: the meetings of a league, round by round."""

from ringrows.checks import check_day, check_pair, check_size, check_team, is_integer, is_list
from ringrows.errors import InvalidFixed, InvalidRounds, TooMany
from ringrows.seats import ring_marks

FEWEST_MEETINGS = 2
MOST_MEETINGS = 12
MOST_ROUNDS = 60
MOST_TEAMS = 24


class Table:
    """A table: in each round each team stands in one meeting (home, away)."""

    def __init__(self, rounds):
        _check_rounds(rounds)
        self._rounds = [sorted([(home, away) for home, away in meetings]) for meetings in rounds]

    @property
    def size(self):
        """The number of teams."""
        return 2 * len(self._rounds[0])

    @size.setter
    def size(self, value):
        # NotRight keeps an attribute of this name, so there must be a setter; a table still never changes.
        raise AttributeError("a table never changes")

    def rounds(self):
        """The list of the sorted lists of the meetings."""
        return [list(meetings) for meetings in self._rounds]

    def meetings(self, day):
        """The sorted list of the meetings of a round."""
        check_day(day, len(self._rounds))
        return list(self._rounds[day])

    def row_of(self, team):
        """The row of a team, a string of marks."""
        check_team(team, self.size)
        return "".join([_mark_in(meetings, team) for meetings in self._rounds])

    def met_in(self, one, other):
        """The ascending list of the rounds in which two teams meet."""
        check_pair(one, other, self.size)
        return [day for day, meetings in enumerate(self._rounds)
                if (one, other) in meetings or (other, one) in meetings]

    def with_turned(self, meetings):
        """The Table in which these meetings are turned, all at once and wherever they stand."""
        check_meetings(self, meetings)
        told = {meeting: True for meeting in meetings}
        return Table([[(away, home) if (home, away) in told else (home, away) for home, away in row]
                      for row in self._rounds])

    def __len__(self):
        return len(self._rounds)

    def __eq__(self, other):
        return isinstance(other, Table) and self._rounds == other._rounds

    def __repr__(self):
        return f"Table({self._rounds})"


def table_of(rule, size):
    """The Table of a rule at a size."""
    check_size(rule, size)
    if size > MOST_TEAMS:
        raise TooMany("teams", MOST_TEAMS)
    return Table([_round_of(rule, size, day) for day in range(size - 1)])


def check_meetings(table, meetings):
    """Refuses any value that is no list of different meetings of a Table."""
    if not is_list(meetings):
        raise InvalidFixed(None)
    stand = {meeting: True for row in table.rounds() for meeting in row}
    told = {}
    for position, meeting in enumerate(meetings):
        if not _is_meeting(meeting) or meeting not in stand or meeting in told:
            raise InvalidFixed(position)
        told[meeting] = True


def are_meetings(table, value):
    """Whether any value is a list of different meetings of a Table."""
    try:
        check_meetings(table, value)
    except InvalidFixed:
        return False
    return True


def _check_rounds(rounds):
    if not is_list(rounds) or len(rounds) == 0:
        raise InvalidRounds(None)
    for position, meetings in enumerate(rounds):
        if not is_round(meetings) or len(meetings) != len(rounds[0]):
            raise InvalidRounds(position)
    if len(rounds) > MOST_ROUNDS:
        raise TooMany("rounds", MOST_ROUNDS)


def is_round(value):
    """Whether any value is a round of some size."""
    if not is_list(value) or len(value) < FEWEST_MEETINGS or len(value) > MOST_MEETINGS:
        return False
    if not all([_is_meeting(meeting) for meeting in value]):
        return False
    return sorted([team for meeting in value for team in meeting]) == list(range(2 * len(value)))


def _is_meeting(value):
    """Whether any value is a tuple of two INTEGERS."""
    return isinstance(value, tuple) and len(value) == 2 and is_integer(value[0]) and is_integer(value[1])


def _mark_in(meetings, team):
    """The mark of a team in a round, in which it stands."""
    return "h" if team in [meeting[0] for meeting in meetings] else "a"


def _round_of(rule, size, day):
    """The meetings of a round of a rule."""
    ring = size - 1
    marks = ring_marks(rule, size // 2 - 1, day)
    middle = rule.step * day
    pairs = [((middle + place) % ring, (middle - place) % ring) for place in range(1, size // 2)]
    pairs = [(middle % ring, ring)] + pairs
    return [(one, other) if mark == "h" else (other, one) for (one, other), mark in zip(pairs, marks)]
