"""Lots of teams [81]: which of them cannot all meet each other by the rows of a league."""

from ringrows.checks import is_count, is_list, is_marks
from ringrows.errors import InvalidLot, InvalidRows

FEWEST_TEAMS = 2
MOST_TEAMS = 12
MOST_MARKS = 30


def room(rows, lot):
    """How many meetings within a lot the rows of a league have room for."""
    _check_rows(rows)
    _check_lot(rows, lot)
    return _room(rows, lot)


def is_lacking(rows, lot):
    """Whether the rows of a league have less room for a lot than it has pairs."""
    _check_rows(rows)
    _check_lot(rows, lot)
    return _is_lacking(rows, lot)


def lacking_lot(rows):
    """Of the lots that lack with the fewest teams the least one, None if no lot lacks."""
    _check_rows(rows)
    lots = [(team,) for team in range(len(rows))]
    while len(lots) > 0:
        # Lots of one length come in ascending order if those one team shorter did.
        lots = [lot + (team,) for lot in lots for team in range(lot[-1] + 1, len(rows))]
        for lot in lots:
            if _is_lacking(rows, lot):
                return lot
    return None


def _check_rows(rows):
    if not is_list(rows) or len(rows) < FEWEST_TEAMS or len(rows) > MOST_TEAMS:
        raise InvalidRows(None)
    for position, row in enumerate(rows):
        if not is_marks(row) or row == "" or len(row) > MOST_MARKS or len(row) != len(rows[0]):
            raise InvalidRows(position)


def _check_lot(rows, lot):
    if not isinstance(lot, tuple) or len(lot) < FEWEST_TEAMS:
        raise InvalidLot(None)
    for position, team in enumerate(lot):
        if not is_count(team) or team >= len(rows) or position > 0 and team <= lot[position - 1]:
            raise InvalidLot(position)


def _room(rows, lot):
    told = [rows[team] for team in lot]
    homes = [list(marks).count("h") for marks in zip(*told)]
    return sum([min(many, len(lot) - many) for many in homes])


def _is_lacking(rows, lot):
    return _room(rows, lot) < len(lot) * (len(lot) - 1) // 2
