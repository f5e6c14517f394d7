"""Forms [11]: INTEGERS told for each place from a first one on, by early values and rows."""

from math import lcm

from ringrows.checks import is_count, is_integer, is_list
from ringrows.errors import InvalidFirst, InvalidNumber, InvalidPlace, InvalidRows, InvalidValues, TooMany
from ringrows.polynomials import fewest_early, fewest_rows, first_positive, fitted_row, is_lasting, last_low
from ringrows.polynomials import place_value, spread

MOST_VALUES = 200
MOST_ROWS = 24


class Reckoned:
    """Early values or rows that the package reckoned itself: they are right, and have no limit of numbers."""

    def __init__(self, parts):
        self.parts = list(parts)


class Form:
    """A form: its value at a place is early, or the value of a row."""

    def __init__(self, first, early, rows):
        if isinstance(early, Reckoned) and isinstance(rows, Reckoned):
            self._first = first
            self._early = list(early.parts)
            self._rows = list(rows.parts)
        else:
            _check_parts(first, early, rows)
            self._first = first
            self._early = list(early)
            self._rows = [tuple(row) for row in rows]

    @staticmethod
    def level(first, number):
        """The Form with this value everywhere."""
        _check_first(first)
        return Form(first, [], [(0, 0, _checked(number))])

    @property
    def first(self):
        """The first place."""
        return self._first

    @property
    def begin(self):
        """The place from which on the rows tell the values."""
        return self._first + len(self._early)

    @property
    def period(self):
        """How many rows there are."""
        return len(self._rows)

    def early(self):
        """The list of the early values."""
        return list(self._early)

    def rows(self):
        """The list of the rows."""
        return list(self._rows)

    def reduced(self):
        """The Form with the same values that has the fewest rows, and of these the fewest early values."""
        early = fewest_early(self._first, self._early, self._rows)
        return reckoned_form(self._first, early, fewest_rows(self._rows))

    def __call__(self, place):
        if not is_integer(place) or place < self._first:
            raise InvalidPlace(place)
        return _value(self, place)

    def __add__(self, other):
        if isinstance(other, Form):
            return _joined(self, other, 1).reduced()
        return _lifted(self, _checked(other))

    def __radd__(self, other):
        return _lifted(self, _checked(other))

    def __sub__(self, other):
        if isinstance(other, Form):
            return _joined(self, other, -1).reduced()
        return _lifted(self, -_checked(other))

    def __mul__(self, other):
        return _scaled(self, _checked(other))

    def __rmul__(self, other):
        return _scaled(self, _checked(other))

    def __neg__(self):
        return _scaled(self, -1)

    def __eq__(self, other):
        return (isinstance(other, Form) and self._first == other._first
                and self._early == other._early and self._rows == other._rows)

    def __repr__(self):
        return f"Form({self._first}, {self._early}, {self._rows})"


def reckoned_form(first, early, rows):
    """The Form with parts that the package reckoned, however many they are."""
    return Form(first, Reckoned(early), Reckoned(rows))


def fitted_form(first, values, period):
    """The reduced Form with these values from first on, if the last three of each rest are a row's values."""
    begin = first + len(values) - 3 * period
    rows = []
    for rest in range(period):
        place = begin + (rest - begin) % period
        rows.append(fitted_row(values[place - first::period], place // period))
    return reckoned_form(first, values[:begin - first], rows).reduced()


def same_values(one, other):
    """Whether two Forms are alike [12]."""
    return first_unlike(one, other) is None


def first_unlike(one, other):
    """The least place, for both of them, at which two Forms differ, None if they are alike."""
    between = one - other
    # A polynomial of the second degree that is 0 at three places is 0 everywhere.
    for place in range(between.first, between.begin + 3 * between.period):
        if _value(between, place) != 0:
            return place
    return None


def first_above(form, number):
    """The least place at which the value is greater than number, None if there is none."""
    less = _lifted(form, -_checked(number))
    for ahead, value in enumerate(less.early()):
        if value > 0:
            return less.first + ahead
    turns = [first_positive(row, _first_turn(less, rest)) for rest, row in enumerate(less.rows())]
    return min(_places_of(turns), default=None)


def above_from(form, number):
    """The least place such that from it on all values are greater than number, None if there is none."""
    less = _lifted(form, -_checked(number))
    rows = less.rows()
    if not all([is_lasting(row) for row in rows]):
        return None
    early_lows = [less.first + ahead for ahead, value in enumerate(less.early()) if value <= 0]
    lows = _places_of([last_low(row, _first_turn(less, rest)) for rest, row in enumerate(rows)])
    return max(early_lows + lows, default=less.first - 1) + 1


def _check_first(first):
    if not is_count(first):
        raise InvalidFirst(first)


def _check_parts(first, early, rows):
    _check_first(first)
    _check_values(early)
    _check_rows(rows)
    if len(early) > MOST_VALUES:
        raise TooMany("values", MOST_VALUES)
    if len(rows) > MOST_ROWS:
        raise TooMany("rows", MOST_ROWS)


def _check_values(early):
    if not is_list(early):
        raise InvalidValues(None)
    for position, value in enumerate(early):
        if not is_integer(value):
            raise InvalidValues(position)


def _check_rows(rows):
    if not is_list(rows) or len(rows) == 0:
        raise InvalidRows(None)
    for position, row in enumerate(rows):
        if not _is_row(row):
            raise InvalidRows(position)


def _is_row(value):
    return isinstance(value, tuple) and len(value) == 3 and all([is_integer(part) for part in value])


def _checked(number):
    """The number itself, if it is an INTEGER."""
    if not is_integer(number):
        raise InvalidNumber(number)
    return number


def _value(form, place):
    """The value of a Form at a place from its first on."""
    if place < form.begin:
        return form._early[place - form._first]
    return place_value(form._rows, place)


def _joined(one, other, sign):
    """The sum of a Form and of so many times another one, not reduced."""
    first = max(one.first, other.first)
    begin = max(one.begin, other.begin)
    period = lcm(one.period, other.period)
    early = [_value(one, place) + sign * _value(other, place) for place in range(first, begin)]
    mine = spread(one._rows, period)
    others = spread(other._rows, period)
    rows = [(a + sign * d, b + sign * e, c + sign * f) for (a, b, c), (d, e, f) in zip(mine, others)]
    return reckoned_form(first, early, rows)


def _lifted(form, number):
    """The Form with all values so much greater, with as many parts."""
    early = [value + number for value in form._early]
    return reckoned_form(form._first, early, [(a, b, c + number) for a, b, c in form._rows])


def _scaled(form, number):
    """The Form with all values so many times as great, with as many parts."""
    early = [value * number for value in form._early]
    return reckoned_form(form._first, early, [(a * number, b * number, c * number) for a, b, c in form._rows])


def _first_turn(form, rest):
    """The least quotient with which a place with this rest is not ahead of the begin."""
    return -((rest - form.begin) // form.period)


def _places_of(turns):
    """The places with these quotients, one for each rest; a rest without one is told by None."""
    return [turn * len(turns) + rest for rest, turn in enumerate(turns) if turn is not None]
