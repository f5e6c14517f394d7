"""Mends of a single table [82]: the fewest meetings to turn so that it is even, and gauges that show it."""

from ringrows.checks import is_integer, is_list
from ringrows.errors import InvalidGauge, NotSingle
from ringrows.lines import first_odd_pair
from ringrows.nets import Net
from ringrows.tables import are_meetings, check_meetings


def is_even(table):
    """Whether each team of a single table is at home in half of the rounds, or half of one less or more."""
    _check_single(table)
    return _is_even(table)


def mend(table, fixed=()):
    """The fewest meetings to turn, sorted, none of them fixed, so that a table is even; None if none will do."""
    _check(table, fixed)
    free = _free_meetings(table, fixed)
    return _mend_of(table, free, _filled_net(table, free))


def mend_size(table, fixed=()):
    """How many meetings have to be turned at least, None if none will do."""
    told = mend(table, fixed)
    return None if told is None else len(told)


def is_mend(table, fixed, value):
    """Whether any value is a mend of a table."""
    _check(table, fixed)
    if not are_meetings(table, value) or list(value) != sorted(list(value)):
        return False
    stuck = {meeting: True for meeting in fixed}
    return not any([meeting in stuck for meeting in value]) and _is_even(table.with_turned(value))


def shown(table, fixed, gauge):
    """What a gauge shows."""
    check_meetings(table, fixed)
    _check_gauge(gauge, table.size)
    _check_single(table)
    half = table.size // 2
    # Who has the greater target should be those with the least gauges.
    targets = sum([height * (half - 1) for height in gauge]) + sum(sorted(list(gauge))[:half])
    homes = sum([height * many for height, many in zip(gauge, _homes(table))])
    gaps = [gauge[away] - gauge[home] - 1 for home, away in _free_meetings(table, fixed)]
    return targets - homes - sum([gap for gap in gaps if gap > 0])


def gauge_of(table, fixed=()):
    """A gauge that shows as many meetings as have to be turned at least, None if none will do."""
    _check(table, fixed)
    free = _free_meetings(table, fixed)
    net = _filled_net(table, free)
    return None if _mend_of(table, free, net) is None else _heights(table, net)


def gauge_above(table, fixed, number):
    """A gauge that shows more than a COUNT, None if a mend has so few meetings; the table is single."""
    free = _free_meetings(table, fixed)
    net = _filled_net(table, free)
    told = _mend_of(table, free, net)
    if told is None:
        # Fewer meetings than they lack can be turned for the teams to which no unit can come any more.
        reached = net.costs_from({_source(table): 0})
        return [0 if team in reached else number + 1 for team in range(table.size)]
    return _heights(table, net) if len(told) > number else None


def _check(table, fixed):
    check_meetings(table, fixed)
    _check_single(table)


def _check_single(table):
    odd = first_odd_pair(table)
    if odd is not None:
        raise NotSingle(odd[0], odd[1])


def _check_gauge(gauge, teams):
    if not is_list(gauge) or len(gauge) != teams:
        raise InvalidGauge(None)
    for position, height in enumerate(gauge):
        if not is_integer(height):
            raise InvalidGauge(position)


def _is_even(table):
    half = table.size // 2
    return all([homes in (half - 1, half) for homes in _homes(table)])


def _homes(table):
    """In how many rounds each team is at home."""
    return [table.row_of(team).count("h") for team in range(table.size)]


def _free_meetings(table, fixed):
    """The sorted list of the meetings that are not fixed."""
    stuck = {meeting: True for meeting in fixed}
    return sorted([meeting for meetings in table.rounds() for meeting in meetings if meeting not in stuck])


def _source(table):
    """The node from which the units of the net come."""
    return table.size


def _filled_net(table, free):
    """The net in which a unit is one time at home that goes from team to team: from home to away, if a meeting turns.

    All that a team has above the lesser target comes from the source; all that it lacks goes to the goal, and one
    more can go there by way of the spare node, by which half of the teams have the greater target.
    """
    low = table.size // 2 - 1
    source = _source(table)
    spare = source + 1
    goal = source + 2
    net = Net(source + 3)
    for team, homes in enumerate(_homes(table)):
        net.lay(source, team, max(0, homes - low), 0)
        net.lay(team, goal, max(0, low - homes), 0)
        net.lay(team, spare, 1, 0)
    net.lay(spare, goal, low + 1, 0)
    for home, away in free:
        net.lay(home, away, 1, 1)
    net.send_all(source, goal)
    return net


def _mend_of(table, free, net):
    """The meetings that are turned in a filled net, None if not all units came to the goal."""
    if any([net.room_left(_source(table), team) > 0 for team in range(table.size)]):
        return None
    return [(home, away) for home, away in free if net.room_left(home, away) == 0]


def _heights(table, net):
    """The gauge that shows as many meetings as are turned in a net that is filled at the least cost."""
    # No turn back lowers the cost, so there are costs at which no way that has room gains anything.
    costs = net.costs_from({node: 0 for node in range(table.size + 3)})
    return [costs[team] for team in range(table.size)]
