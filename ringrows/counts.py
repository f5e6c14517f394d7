"""At how many seats marks stand as they are told [53], at every size: far on, by what a further middle adds [55]."""

from ringrows.seats import ring_marks


def bound_of(rule, aheads):
    """The bound [55] for marks that are told at seats so far ahead."""
    told = [0] + aheads
    width = max(told) - min(told) + 1
    return 2 * width + len(rule.word.head) + len(rule.word.tail)


def seats_with(rule, places, cells):
    """At how many seats all cells (ahead, day, mark) hold: on this day the seat so far ahead has the mark."""
    begin = bound_of(rule, [cell[0] for cell in cells])
    period = len(rule.word.middle)
    if places < begin + period:
        return _counted(rule, places, cells)
    # From the bound on, each further middle adds as many seats as any other one.
    near = begin + (places - begin) % period
    few = _counted(rule, near, cells)
    more = _counted(rule, near + period, cells) - few
    return few + (places - near) // period * more


def _counted(rule, places, cells):
    """The same as seats_with, by going through all seats."""
    wanted = tuple([cell[2] for cell in cells])
    rows = [_marks_ahead(ring_marks(rule, places, day), ahead) for ahead, day, _ in cells]
    return list(zip(*rows)).count(wanted)


def _marks_ahead(marks, ahead):
    """For each seat the mark at the seat so far ahead."""
    begin = ahead % len(marks)
    return marks[begin:] + marks[:begin]
