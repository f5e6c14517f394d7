"""Rows along a table [42], pairs of it [82], and who follows whom [44]."""

from ringrows.checks import is_marks
from ringrows.errors import InvalidMarks


def breaks_in(marks):
    """How many breaks a row has."""
    return sum([length - 1 for length in stays_in(marks)])


def stays_in(marks):
    """The list of the lengths of the stays of a row, in sequence."""
    if not is_marks(marks) or marks == "":
        raise InvalidMarks(marks)
    starts = [at for at in range(len(marks)) if at == 0 or marks[at] != marks[at - 1]]
    return [end - start for start, end in zip(starts, starts[1:] + [len(marks)])]


def is_single(table):
    """Whether each two teams meet just once."""
    return first_odd_pair(table) is None


def first_odd_pair(table):
    """The least two teams that do not meet just once, and how often they meet; None if the table is single."""
    counts = {}
    for meetings in table.rounds():
        for home, away in meetings:
            pair = (min(home, away), max(home, away))
            counts[pair] = counts.get(pair, 0) + 1
    for one in range(table.size):
        for other in range(one + 1, table.size):
            many = counts.get((one, other), 0)
            if many != 1:
                return one, other, many
    return None


def followings(table):
    """The dict from the tuples (i, j) to in how many rounds j follows i."""
    faced = [_opponents(meetings) for meetings in table.rounds()]
    counts = {}
    for before, behind in zip(faced, faced[1:]):
        for team in range(table.size):
            pair = (before[team], behind[team])
            counts[pair] = counts.get(pair, 0) + 1
    return {pair: counts[pair] for pair in sorted(list(counts))}


def _opponents(meetings):
    """The dict from the teams to those that they meet in a round."""
    faced = {}
    for home, away in meetings:
        faced[home] = away
        faced[away] = home
    return faced
