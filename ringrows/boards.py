"""Boards [43]: tables that can be changed."""

from ringrows.checks import check_day, check_team, is_mark
from ringrows.errors import InvalidMarks, InvalidRound, InvalidSize
from ringrows.tables import Table


class Board:
    """A board: it holds a Table, which never changes, and takes another one for each change."""

    def __init__(self, table):
        self._table = table

    @property
    def table(self):
        """The Table as it is."""
        return self._table

    @table.setter
    def table(self, value):
        self.take(value)

    def take(self, other):
        """Another Table of the same size stands here from now on."""
        if other.size != self._table.size:
            raise InvalidSize(other.size)
        self._table = other

    def turn(self, one, other):
        """Turns all meetings of two teams, and tells how many they are."""
        days = self._table.met_in(one, other)
        for day in days:
            self._turn_at(day, one)
        return len(days)

    def __getitem__(self, at):
        _check_at(self._table, at)
        day, team = at
        return self._table.row_of(team)[day]

    def __setitem__(self, at, worth):
        _check_at(self._table, at)
        if not is_mark(worth):
            raise InvalidMarks(worth)
        day, team = at
        if self._table.row_of(team)[day] != worth:
            self._turn_at(day, team)

    def __iadd__(self, other):
        # The last one of these rounds alone can be wrong, so it is told by how many there were.
        self._table = Table(self._table.rounds() + [other])
        return self

    def __iter__(self):
        raise TypeError("a board is not iterated over")

    def __len__(self):
        return len(self._table)

    def _turn_at(self, day, team):
        """Turns the meeting of a team in a round."""
        rounds = self._table.rounds()
        rounds[day] = [(away, home) if team in (home, away) else (home, away) for home, away in rounds[day]]
        self._table = Table(rounds)


def _check_at(table, at):
    if not isinstance(at, tuple) or len(at) != 2:
        raise InvalidRound(at)
    check_day(at[0], len(table))
    check_team(at[1], table.size)
