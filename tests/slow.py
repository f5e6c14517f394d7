"""Slow ways, straight from the document's words, to what the package reckons."""

from fractions import Fraction
from itertools import product
from math import lcm


def form_value(first, early, rows, place):
    if place - first < len(early):
        return early[place - first]
    t = place // len(rows)
    a, b, c = rows[place % len(rows)]
    return a * t ** 2 + b * t + c


def fitted_rows(value, begin, period):
    """The polynomials that tell the values far behind begin at three quotients, for each rest."""
    rows = []
    t = begin // period + 1
    for rest in range(period):
        one, two, three = [value(rest + period * (t + k)) for k in range(3)]
        a = Fraction(three - 2 * two + one, 2)
        b = two - one - a * (2 * t + 1)
        rows.append((a, b, one - a * t * t - b * t))
    return rows


def reduced_parts(first, early, rows):
    """The early values and rows of the reduced form, by a search over all periods and begins."""
    def value(place):
        return form_value(first, early, rows, place)
    begin = first + len(early)
    for period in range(1, len(rows) + 1):
        fitted = fitted_rows(value, begin, period)
        if any(part.denominator != 1 for row in fitted for part in row):
            continue
        told = [tuple(int(part) for part in row) for row in fitted]
        end = begin + 3 * lcm(period, len(rows))
        if any(form_value(begin, [], told, place) != value(place) for place in range(begin, end)):
            continue
        for many in range(len(early) + 1):
            if all(form_value(first + many, [], told, place) == value(place)
                   for place in range(first + many, begin)):
                return early[:many], told
    raise AssertionError("the rows themselves will do")


def word_row(head, middle, tail, places):
    row = head
    while len(row) < places - len(tail):
        row += middle[(len(row) - len(head)) % len(middle)]
    return row + tail


def word_least(head, middle, tail):
    return max(1, len(head + tail))


def all_words():
    """All words, as tuples (head, middle, tail)."""
    marks = ["".join(part) for many in range(5) for part in product("ha", repeat=many)]
    return [(head, middle, tail) for middle in marks if middle for head in marks for tail in marks]


def unlike_place(one, other, end):
    """The first (places, place) below end places at which two words differ, None if there is none."""
    for places in range(max(word_least(*one), word_least(*other)), end):
        row, another = word_row(*one, places), word_row(*other, places)
        for place in range(1, places + 1):
            if row[place - 1] != another[place - 1]:
                return places, place
    return None
