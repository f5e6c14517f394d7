"""What is done at a desk [94]: moves, tuples of the name of a command and of its numbers, one behind another.

All that a desk tells is told from its table and its moves. Those that were taken back are none of them.
"""

from ringrows.errors import NoRound, NotOpen, NothingToUndo, Unplayed
from ringrows.numerals import count_told, numbers_told

# The numbers that the commands have: teams (t) and goals (g).
NUMBERS = {"play": "ttgg", "put off": "tt", "next": "", "undo": "", "round": "", "waiting": "", "points": "t",
           "table": ""}


def read_command(command, teams):
    """The tuple of the name and the numbers of a command, None for any value that is none."""
    if not isinstance(command, str):
        return None
    name, parts = _parted(command)
    kinds = NUMBERS.get(name, "")
    if name not in NUMBERS or len(parts) != len(kinds):
        return None
    told = numbers_told(0, teams - 1)
    numbers = [told.get(part) if kind == "t" else count_told(part) for part, kind in zip(parts, kinds)]
    if None in numbers or kinds[:2] == "tt" and numbers[0] == numbers[1]:
        return None
    return (name,) + tuple(numbers)


def moves_behind(table, moves, move):
    """The tuple of the moves behind a further one, or behind an undo."""
    if move[0] == "undo":
        if len(moves) == 0:
            raise NothingToUndo()
        return moves[:-1]
    if move[0] == "next":
        _check_next(table, moves)
    else:
        _check_meeting(table, moves, move)
    return moves + (move,)


def round_open(table, moves):
    """The number of the open round, None if there is none."""
    closed = len([move for move in moves if move[0] == "next"])
    return closed if closed < len(table) else None


def results_of(moves):
    """The dict from the played meetings, sorted, to the tuples of the goals of both."""
    return {move[1:3]: move[3:] for move in sorted([move for move in moves if move[0] == "play"])}


def due_meetings(table, moves):
    """The sorted list of the meetings of the open round that are neither played nor put off."""
    day = round_open(table, moves)
    if day is None:
        return []
    done = {move[1:3]: True for move in moves}
    return [meeting for meeting in table.meetings(day) if meeting not in done]


def waiting_meetings(moves):
    """The sorted list of the meetings that are put off and not played yet."""
    played = results_of(moves)
    return sorted([move[1:3] for move in moves if move[0] == "put off" and move[1:3] not in played])


def _parted(command):
    """The name of a command, of one word or of two, and the words behind it."""
    words = command.split(" ")
    many = 2 if words[:2] == ["put", "off"] else 1
    return " ".join(words[:many]), words[many:]


def _check_next(table, moves):
    if round_open(table, moves) is None:
        raise NoRound()
    due = due_meetings(table, moves)
    if len(due) > 0:
        raise Unplayed(due[0][0], due[0][1])


def _check_meeting(table, moves, move):
    """Refuses a meeting that can't be played, or put off, now."""
    free = due_meetings(table, moves)
    if move[0] == "play":
        free = free + waiting_meetings(moves)
    if move[1:3] not in free:
        raise NotOpen(move[1], move[2])
