"""Rows told in pieces (length, marks): each piece has its marks said again and again, cut off at its length."""

SAME = "s"
OTHER = "o"


def times_until(pieces, mark, many):
    """How often a mark stands among the first so many marks."""
    times = 0
    left = many
    for length, marks in pieces:
        here = min(left, length)
        times = times + times_said(marks, mark, here)
        left = left - here
    return times


def position_of(pieces, mark, number):
    """The position at which a mark stands for the number-th time, None if there is none."""
    left = number
    ahead = 0
    for length, marks in pieces:
        times = times_said(marks, mark, length)
        if left <= times:
            return ahead + _position_said(marks, mark, left)
        left = left - times
        ahead = ahead + length
    return None


def likeness(pieces):
    """For each position whether the next one has the same mark, in pieces; the last position has no next one."""
    told = []
    nexts = [marks[0] for _, marks in pieces[1:]] + [""]
    for (length, marks), behind in zip(pieces, nexts):
        if length > 1:
            told.append((length - 1, _compared(marks, marks[1:] + marks[0])))
        told.append((1, _compared(marks[(length - 1) % len(marks)], behind)))
    return told


def times_said(marks, mark, many):
    """How often a mark stands among the first so many of marks that are said again and again."""
    turns, rest = divmod(many, len(marks))
    return turns * marks.count(mark) + marks[:rest].count(mark)


def _compared(marks, others):
    """For each of some marks whether the other ones have the same at its position."""
    return "".join([SAME if others[at:at + 1] == mark else OTHER for at, mark in enumerate(marks)])


def _position_said(marks, mark, number):
    """The position at which a mark stands for the number-th time in marks that are said again and again."""
    turns, rest = divmod(number - 1, marks.count(mark))
    positions = [at for at, said in enumerate(marks) if said == mark]
    return turns * len(marks) + positions[rest]
