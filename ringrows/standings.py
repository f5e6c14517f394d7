"""Points and the sequence of the teams, from the results of a league [94]."""

WON = 3
DRAWN = 1


def points_of(results, team):
    """The points of a team."""
    return sum([_points(own, against) for own, against in _goals_of(results, team)])


def ranking(results, teams):
    """The list of so many teams, the first one ahead."""
    return sorted(list(range(teams)), key=lambda team: _place_key(results, team))


def _points(own, against):
    if own == against:
        return DRAWN
    return WON if own > against else 0


def _goals_of(results, team):
    """The goals of a team and those against it, of each of its meetings that are played."""
    at_home = [(goals, others) for (home, _), (goals, others) in results.items() if home == team]
    return at_home + [(goals, others) for (_, away), (others, goals) in results.items() if away == team]


def _place_key(results, team):
    """What is the less, the better a team stands."""
    goals = sum([own for own, _ in _goals_of(results, team)])
    against = sum([others for _, others in _goals_of(results, team)])
    return -points_of(results, team), against - goals, -goals, team
