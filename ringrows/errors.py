"""The errors of the package; each one keeps what it was made with."""


class LeagueError(ValueError):
    """A value that was passed is not valid."""


class InvalidFirst(LeagueError):
    """The first place of a form is no COUNT."""

    def __init__(self, value):
        self.value = value


class InvalidValues(LeagueError):
    """The early values of a form are not a list of INTEGERS."""

    def __init__(self, position):
        self.position = position


class InvalidRows(LeagueError):
    """The rows of a form, or of a league, are not as they must be."""

    def __init__(self, position):
        self.position = position


class InvalidNumber(LeagueError):
    """A number is not one that can stand there."""

    def __init__(self, value):
        self.value = value


class InvalidPlace(LeagueError):
    """A place, or a number of places, is not one that there is."""

    def __init__(self, value):
        self.value = value


class InvalidMarks(LeagueError):
    """A value is not a string of marks that can stand there."""

    def __init__(self, value):
        self.value = value


class InvalidStep(LeagueError):
    """The step of a rule is not one."""

    def __init__(self, value):
        self.value = value


class InvalidStander(LeagueError):
    """The stander of a rule is not one."""

    def __init__(self, value):
        self.value = value


class InvalidTurned(LeagueError):
    """Whether a rule is turned is told by no bool."""

    def __init__(self, value):
        self.value = value


class InvalidSize(LeagueError):
    """A size is not one of those that there are."""

    def __init__(self, value):
        self.value = value


class InvalidTeam(LeagueError):
    """A team is not one of those that can stand there."""

    def __init__(self, value):
        self.value = value


class InvalidRound(LeagueError):
    """A round is not one of those that there are."""

    def __init__(self, value):
        self.value = value


class InvalidRounds(LeagueError):
    """The rounds of a table are not as they must be."""

    def __init__(self, position):
        self.position = position


class InvalidCells(LeagueError):
    """The cells of a picture are not as they must be."""

    def __init__(self, position):
        self.position = position


class InvalidLegs(LeagueError):
    """The legs of a season are not as they must be."""

    def __init__(self, position):
        self.position = position


class InvalidCount(LeagueError):
    """A number that counts is not one that can stand there."""

    def __init__(self, value):
        self.value = value


class InvalidLot(LeagueError):
    """A lot is not a sorted tuple of teams."""

    def __init__(self, position):
        self.position = position


class InvalidFixed(LeagueError):
    """Meetings that are told are not different ones of the table."""

    def __init__(self, position):
        self.position = position


class InvalidGauge(LeagueError):
    """A gauge is not a list of INTEGERS, one for each team."""

    def __init__(self, position):
        self.position = position


class InvalidText(LeagueError):
    """A text does not tell what is to be read."""

    def __init__(self, line):
        self.line = line


class InvalidClaim(LeagueError):
    """A value is no claim."""

    def __init__(self, value):
        self.value = value


class InvalidCommand(LeagueError):
    """A value is no command."""

    def __init__(self, value):
        self.value = value


class StateError(RuntimeError):
    """What is asked for can't be done as things stand."""


class NotSingle(StateError):
    """Two teams do not meet just once in a table."""

    def __init__(self, one, other):
        self.one = one
        self.other = other


class NotRight(StateError):
    """A rule is not right at a size."""

    def __init__(self, size):
        self.size = size


class NotOpen(StateError):
    """A meeting can't be played, or put off, now."""

    def __init__(self, home, away):
        self.home = home
        self.away = away


class Unplayed(StateError):
    """A meeting of the open round is neither played nor put off."""

    def __init__(self, home, away):
        self.home = home
        self.away = away


class NoRound(StateError):
    """No round is open."""

    def __init__(self):
        pass


class NothingToUndo(StateError):
    """No command is left that can be taken back."""

    def __init__(self):
        pass


class CommandFailed(StateError):
    """One of several commands failed."""

    def __init__(self, position):
        self.position = position


class LimitError(ArithmeticError):
    """A limit is passed."""


class TooMany(LimitError):
    """There are more of something than the limit lets."""

    def __init__(self, what, limit):
        self.what = what
        self.limit = limit
