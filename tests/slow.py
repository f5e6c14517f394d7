"""Slow ways, straight from the document's words, to what the package reckons."""

from fractions import Fraction
from itertools import product
from math import lcm


def form_value(first, early, rows, place):
    if place - first < len(early):
        return early[place - first]
    t = place // len(rows)
    a, b, c = rows[place % len(rows)]
    return a * t ** 2 + b * t + c


def fitted_rows(value, begin, period):
    """The polynomials that tell the values far behind begin at three quotients, for each rest."""
    rows = []
    t = begin // period + 1
    for rest in range(period):
        one, two, three = [value(rest + period * (t + k)) for k in range(3)]
        a = Fraction(three - 2 * two + one, 2)
        b = two - one - a * (2 * t + 1)
        rows.append((a, b, one - a * t * t - b * t))
    return rows


def reduced_parts(first, early, rows):
    """The early values and rows of the reduced form, by a search over all periods and begins."""
    def value(place):
        return form_value(first, early, rows, place)
    begin = first + len(early)
    for period in range(1, len(rows) + 1):
        fitted = fitted_rows(value, begin, period)
        if any(part.denominator != 1 for row in fitted for part in row):
            continue
        told = [tuple(int(part) for part in row) for row in fitted]
        end = begin + 3 * lcm(period, len(rows))
        if any(form_value(begin, [], told, place) != value(place) for place in range(begin, end)):
            continue
        for many in range(len(early) + 1):
            if all(form_value(first + many, [], told, place) == value(place)
                   for place in range(first + many, begin)):
                return early[:many], told
    raise AssertionError("the rows themselves will do")


def word_row(head, middle, tail, places):
    row = head
    while len(row) < places - len(tail):
        row += middle[(len(row) - len(head)) % len(middle)]
    return row + tail


def word_least(head, middle, tail):
    return max(1, len(head + tail))


def all_words():
    """All words, as tuples (head, middle, tail)."""
    marks = ["".join(part) for many in range(5) for part in product("ha", repeat=many)]
    return [(head, middle, tail) for middle in marks if middle for head in marks for tail in marks]


def unlike_place(one, other, end):
    """The first (places, place) below end places at which two words differ, None if there is none."""
    for places in range(max(word_least(*one), word_least(*other)), end):
        row, another = word_row(*one, places), word_row(*other, places)
        for place in range(1, places + 1):
            if row[place - 1] != another[place - 1]:
                return places, place
    return None


STANDERS = ("home", "away", "even", "odd")


def contrary(mark):
    return {"h": "a", "a": "h"}[mark]


def stander_is_home(stander, r):
    return stander == "home" or stander == "even" and r % 2 == 0 or stander == "odd" and r % 2 == 1


class League:
    """A rule at a size, written out: the seats, marks and opponents of all teams in all rounds."""

    def __init__(self, step, parts, stander, turned, n):
        self.n = n
        self.p = n // 2 - 1
        self.seats, self.marks, self.faces = [], [], []
        row = word_row(*parts, self.p)
        for r in range(n - 1):
            self.write_round(step, row, stander, turned, r)

    def write_round(self, step, row, stander, turned, r):
        n, p = self.n, self.p
        team_at = {}
        for k in range(-p, p + 1):
            team_at[k] = (k + step * r) % (n - 1)
        marks, faces, seats = [None] * n, [None] * n, [None] * (n - 1)
        for k, x in team_at.items():
            seats[x] = k
            faces[x] = team_at[-k] if k != 0 else n - 1
            if k != 0:
                mark = row[k - 1] if k > 0 else contrary(row[-k - 1])
                marks[x] = contrary(mark) if turned and r % 2 == 1 else mark
        marks[n - 1] = "h" if stander_is_home(stander, r) else "a"
        marks[team_at[0]] = contrary(marks[n - 1])
        faces[n - 1] = team_at[0]
        self.seats.append(seats)
        self.marks.append(marks)
        self.faces.append(faces)

    def rounds(self):
        """The rounds as a table has them."""
        return [sorted((x, faces[x]) for x in range(self.n) if marks[x] == "h")
                for marks, faces in zip(self.marks, self.faces)]

    def row(self, team):
        return "".join(marks[team] for marks in self.marks)

    def met(self, one, other):
        return [r for r in range(self.n - 1) if self.faces[r][one] == other]

    def is_right(self):
        return all(len(self.met(x, y)) == 1 for y in range(self.n) for x in range(y))

    def breaks(self):
        return sum(self.marks[r][x] == self.marks[r + 1][x] for x in range(self.n) for r in range(self.n - 2))

    def is_seen(self, cells, r, x):
        ring = self.n - 1
        if r + max(t for _, t, _ in cells) > ring - 1:
            return False
        return all(self.marks[r + t][(x + d) % ring] == mark for d, t, mark in cells)

    def seen(self, cells):
        """All (round, team) at which a picture is seen, by rounds, then by teams."""
        return [(r, x) for r in range(self.n - 1) for x in range(self.n - 1) if self.is_seen(cells, r, x)]


def league(rule, n):
    """The league of a Rule at a size."""
    word = rule.word
    return League(rule.step, (word.head, word.middle, word.tail), rule.stander, rule.turned, n)


def told_on(values, place):
    """The value at a place of the polynomial with three values at three places, a dict."""
    total = Fraction(0)
    for at, value in values.items():
        part = Fraction(value)
        for other in values:
            if other != at:
                part = part * (place - other) / (at - other)
        total += part
    return total


def season_days(n, legs):
    """The numbers of the rounds of all legs, a list for each."""
    told = []
    for begin, way, _ in legs:
        days = []
        for i in range(n - 1):
            number = begin + way * i
            while number < 0:
                number += n - 1
            while number > n - 2:
                number -= n - 1
            days.append(number)
        told.append(days)
    return told


def season_rows(rule, n, legs):
    """The rows of all teams along a season."""
    marks = league(rule, n).marks
    rows = []
    for x in range(n):
        row = ""
        for days, (_, _, exchanged) in zip(season_days(n, legs), legs):
            row += "".join(contrary(marks[r][x]) if exchanged else marks[r][x] for r in days)
        rows.append(row)
    return rows


def breaks_of(row):
    return sum(one == other for one, other in zip(row, row[1:]))


def homes_by_team(rounds, n):
    homes = [0] * n
    for meetings in rounds:
        for home, _ in meetings:
            homes[home] += 1
    return homes


def even_homes(homes):
    return all(2 * many in (len(homes), len(homes) - 2) for many in homes)


def fewest_turned(rounds, n, fixed):
    """How many meetings have to be turned at least, by turning all sets of those that are not fixed, or None."""
    free = [meeting for meetings in rounds for meeting in meetings if meeting not in fixed]
    homes = homes_by_team(rounds, n)
    least = [None]

    def turn(at, many):
        if even_homes(homes) and (least[0] is None or many < least[0]):
            least[0] = many
        for k in range(at, len(free)):
            home, away = free[k]
            homes[home] -= 1
            homes[away] += 1
            turn(k + 1, many + 1)
            homes[home] += 1
            homes[away] -= 1

    turn(0, 0)
    return least[0]


def gauge_show(rounds, n, fixed, gauge):
    """What a gauge shows; of all targets the least sum is that of a sequence by gauges, tried in both directions."""
    homes = homes_by_team(rounds, n)
    sums = []
    for teams in (sorted(range(n), key=lambda team: gauge[team]), sorted(range(n), key=lambda team: -gauge[team])):
        greater = teams[:n // 2]
        sums.append(sum(gauge[team] * (n // 2 - (team not in greater) - homes[team]) for team in range(n)))
    spent = [gauge[away] - gauge[home] - 1 for meetings in rounds for home, away in meetings
             if (home, away) not in fixed]
    return min(sums) - sum(gap for gap in spent if gap > 0)
