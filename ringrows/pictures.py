"""Pictures [51]: some teams, some rounds, at home or away."""

from ringrows.checks import contrary_marks, is_count, is_integer, is_list, is_mark
from ringrows.errors import InvalidCells, TooMany

MOST_AHEAD = 5
MOST_LATER = 3
MOST_CELLS = 5


class Picture:
    """A picture: cells (team, round, mark), told from some team and some round on."""

    def __init__(self, cells):
        _check_cells(cells)
        self._cells = tuple(sorted([(team, later, mark) for team, later, mark in cells]))

    @property
    def cells(self):
        """The sorted tuple of the cells."""
        return self._cells

    @property
    def span(self):
        """The greatest round of the cells."""
        return max([cell[1] for cell in self._cells])

    def contrary(self):
        """The Picture with the contraries of all marks."""
        return Picture([(team, later, contrary_marks(mark)) for team, later, mark in self._cells])

    def __eq__(self, other):
        return isinstance(other, Picture) and self._cells == other._cells

    def __str__(self):
        return " ".join([f"{team}@{later}={mark}" for team, later, mark in self._cells])

    def __repr__(self):
        return f"Picture({list(self._cells)})"


def _check_cells(cells):
    if not is_list(cells) or len(cells) == 0:
        raise InvalidCells(None)
    told = {}
    for position, cell in enumerate(cells):
        if not _is_cell(cell) or cell[:2] in told:
            raise InvalidCells(position)
        told[cell[:2]] = True
    if 0 not in [cell[1] for cell in cells]:
        raise InvalidCells(None)
    if len(cells) > MOST_CELLS:
        raise TooMany("cells", MOST_CELLS)


def _is_cell(value):
    """Whether any value is a cell."""
    if not isinstance(value, tuple) or len(value) != 3:
        return False
    team, later, mark = value
    if not is_integer(team) or abs(team) > MOST_AHEAD:
        return False
    return is_count(later) and later <= MOST_LATER and is_mark(mark)
