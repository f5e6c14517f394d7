"""A desk [94]: it leads a league round by round, by commands."""

from ringrows.errors import CommandFailed, InvalidCommand, LeagueError, NotRight, StateError
from ringrows.moves import due_meetings, moves_behind, read_command, results_of, round_open, waiting_meetings
from ringrows.seats import is_right
from ringrows.standings import points_of, ranking
from ringrows.tables import table_of
from ringrows.texts import meetings_text


class Desk:
    """A desk: it keeps its table, and its moves in a tuple, a new one for each change."""

    def __init__(self, rule, size):
        if not is_right(rule, size):
            raise NotRight(size)
        self._table = table_of(rule, size)
        self._moves = ()

    @property
    def open_round(self):
        """The number of the open round, None if there is none."""
        return round_open(self._table, self._moves)

    @property
    def undoable(self):
        """How many commands can be taken back."""
        return len(self._moves)

    def results(self):
        """The dict from the played meetings to the tuples (goals of home, goals of away)."""
        return results_of(self._moves)

    def do(self, command):
        """Performs a command, and returns its answer."""
        told = read_command(command, self._table.size)
        if told is None:
            raise InvalidCommand(command)
        if told[0] == "round":
            return _listed(due_meetings(self._table, self._moves))
        if told[0] == "waiting":
            return _listed(waiting_meetings(self._moves))
        if told[0] == "points":
            return str(points_of(results_of(self._moves), told[1]))
        if told[0] == "table":
            return " ".join([str(team) for team in ranking(results_of(self._moves), self._table.size)])
        self._moves = moves_behind(self._table, self._moves, told)
        return "done"

    def do_all(self, *commands):
        """Performs several commands, all or none of them, and returns the list of their answers."""
        held = self._moves
        answers = []
        for position, command in enumerate(commands):
            try:
                answers.append(self.do(command))
            except (LeagueError, StateError) as error:
                self._moves = held
                raise CommandFailed(position) from error
        return answers

    def trial(self):
        """A context manager that gives the desk, and at whose end it is as it was when the context was entered."""
        return Trial(self)

    def tried(self, action):
        """Calls a function with the desk, within a trial, and returns what it returns."""
        with self.trial() as held:
            return action(held)


class Trial:
    """A context in which a desk is tried: it keeps the moves that it had."""

    def __init__(self, desk):
        self._desk = desk
        self._held = ()

    def __enter__(self):
        self._held = self._desk._moves
        return self._desk

    def __exit__(self, kind, value, trace):
        self._desk._moves = self._held


def _listed(meetings):
    """The answer that tells some meetings."""
    return meetings_text(meetings) if len(meetings) > 0 else "-"
