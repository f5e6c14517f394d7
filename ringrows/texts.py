"""The texts of words, rules, pictures and tables [91]: only those that are exactly so are read."""

from ringrows.errors import InvalidCells, InvalidMarks, InvalidText, TooMany
from ringrows.numerals import numbers_told
from ringrows.pictures import MOST_AHEAD, MOST_LATER, Picture
from ringrows.rules import CONTRARY_STANDERS, MOST_STEP, Rule
from ringrows.tables import MOST_ROUNDS, MOST_TEAMS, Table, is_round
from ringrows.words import Word

TURNED = {"turned": True, "plain": False}


def read_word(text):
    """The Word with this text."""
    _check_string(text)
    parts = text.split("|")
    if len(parts) != 3:
        raise InvalidText(1)
    try:
        return Word(parts[0], parts[1], parts[2])
    except InvalidMarks:
        raise InvalidText(1) from None


def read_rule(text):
    """The Rule with this text."""
    _check_string(text)
    parts = text.split(" ")
    if len(parts) != 4:
        raise InvalidText(1)
    step = numbers_told(-MOST_STEP, MOST_STEP).get(parts[0], 0)
    if step == 0 or parts[2] not in CONTRARY_STANDERS or parts[3] not in TURNED:
        raise InvalidText(1)
    return Rule(step, read_word(parts[1]), parts[2], TURNED[parts[3]])


def read_picture(text):
    """The Picture with this text."""
    _check_string(text)
    try:
        picture = Picture([_cell_told(part) for part in text.split(" ")])
    except (InvalidCells, TooMany):
        raise InvalidText(1) from None
    # The cells of a Picture are sorted, those of the text may not be.
    if str(picture) != text:
        raise InvalidText(1)
    return picture


def table_text(table):
    """The text of a table."""
    return "".join([meetings_text(meetings) + "\n" for meetings in table.rounds()])


def read_table(text):
    """The Table with this text."""
    _check_string(text)
    lines = text.split("\n")
    rounds = []
    for line in lines[:-1]:
        meetings = [_meeting_told(part) for part in line.split(" ")]
        if not _fits(rounds, meetings):
            raise InvalidText(len(rounds) + 1)
        rounds.append(meetings)
    # What stands behind the last line feed is a line without one.
    if lines[-1] != "" or len(rounds) == 0:
        raise InvalidText(len(rounds) + 1)
    return Table(rounds)


def meetings_text(meetings):
    """The text of some meetings, in one line."""
    return " ".join([f"{home}-{away}" for home, away in meetings])


def _check_string(text):
    if not isinstance(text, str):
        raise InvalidText(None)


def _cell_told(text):
    """The cell with this text; no cell, if there is none."""
    team, _, rest = text.partition("@")
    later, _, mark = rest.partition("=")
    return numbers_told(-MOST_AHEAD, MOST_AHEAD).get(team), numbers_told(0, MOST_LATER).get(later), mark


def _meeting_told(text):
    """The meeting with this text; no meeting, if there is none."""
    teams = numbers_told(0, MOST_TEAMS - 1)
    home, _, away = text.partition("-")
    return teams.get(home), teams.get(away)


def _fits(rounds, meetings):
    """Whether meetings can be the next round of a text, behind the rounds ahead of it."""
    if not is_round(meetings) or meetings != sorted(meetings):
        return False
    return len(rounds) < MOST_ROUNDS and (len(rounds) == 0 or len(meetings) == len(rounds[0]))
