"""Rows (a, b, c): the polynomial a * t * t + b * t + c of a quotient t, for each rest of the places."""

from math import isqrt


def row_value(row, turn):
    """The value of one row at the quotient turn."""
    a, b, c = row
    return (a * turn + b) * turn + c


def place_value(rows, place):
    """The value of rows at a place, by its quotient and its rest."""
    turn, rest = divmod(place, len(rows))
    return row_value(rows[rest], turn)


def fitted_row(values, turn):
    """The row of INTEGERS with these three values at the quotient turn and at the next two."""
    one, two, three = values
    a = (three - 2 * two + one) // 2
    b = two - one - a * (2 * turn + 1)
    return (a, b, one - (a * turn + b) * turn)


def spread_row(row, many, ahead):
    """The row of the quotients ahead, ahead + many, ahead + 2 * many and so on of a row."""
    a, b, c = row
    return (a * many * many, (2 * a * ahead + b) * many, row_value((a, b, c), ahead))


def spread(rows, period):
    """So many rows, a multiple of how many they are, with the same values."""
    few = len(rows)
    return [spread_row(rows[rest % few], period // few, rest // few) for rest in range(period)]


def folded(rows, period):
    """The only rows of this period, a divisor of theirs, that can have the same values."""
    many = len(rows) // period
    # Quotients that are not exact do no harm: spread again, they do not give the rows back.
    return [(a // (many * many), b // many, c) for a, b, c in rows[:period]]


def fewest_rows(rows):
    """The fewest rows of INTEGERS with the same values."""
    # Only divisors need be tried. With fractions let in, the fewest rows divide each other
    # number of rows that will do. They lack INTEGERS only by halves, as all values are
    # INTEGERS; then just the even multiples of their number will do, the least of which is twice it.
    for period in range(1, len(rows)):
        if len(rows) % period == 0:
            fewer = folded(rows, period)
            if spread(fewer, len(rows)) == rows:
                return fewer
    return list(rows)


def fewest_early(first, early, rows):
    """The early values without those at the end that the rows tell as well."""
    many = len(early)
    while many > 0 and early[many - 1] == place_value(rows, first + many - 1):
        many = many - 1
    return early[:many]


def first_positive(row, start):
    """The least quotient from start on at which a row is above 0, None if there is none."""
    a, b, c = row
    if row_value(row, start) > 0:
        return start
    if a == 0:
        return -c // b + 1 if b > 0 else None
    if a > 0:
        return upper_root(row) + 1
    return first_between_roots(row, start)


def upper_root(row):
    """The greater root of a row with a above 0 and with roots, rounded down."""
    a, b, c = row
    return (isqrt(b * b - 4 * a * c) - b) // (2 * a)


def first_between_roots(row, start):
    """The least quotient from start on that lies between the roots of a row with a below 0, or None."""
    a, b, c = row
    square = b * b - 4 * a * c
    if square <= 0:
        return None
    # isqrt(square - 1) + 1 is the square root rounded up, so the lesser root is rounded down.
    behind = (b - isqrt(square - 1) - 1) // (-2 * a) + 1
    turn = max(behind, start)
    return turn if row_value(row, turn) > 0 else None


def is_lasting(row):
    """Whether a row is above 0 at all quotients from some one on."""
    return row > (0, 0, 0)


def last_low(row, start):
    """The greatest quotient from start on at which a lasting row is not above 0, None if there is none."""
    a, b, c = row
    if a == 0 and b == 0 or b * b < 4 * a * c:
        return None
    turn = -c // b if a == 0 else upper_root(row)
    # Both roots may lie between two INTEGERS next to each other.
    return turn if turn >= start and row_value(row, turn) <= 0 else None
