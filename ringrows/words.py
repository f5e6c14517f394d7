"""Words [21]: rows of marks for all numbers of places, by a head, a middle and a tail."""

from ringrows.checks import contrary_marks, is_integer, is_marks
from ringrows.errors import InvalidMarks, InvalidPlace, TooMany
from ringrows.pieces import times_said

MOST_MARKS = 4
MOST_PLACES = 2000


class Word:
    """A word: its row begins with the head, ends with the tail, and has the middle again and again between."""

    def __init__(self, head, middle, tail):
        _check_part(head)
        _check_part(middle)
        if middle == "":
            raise InvalidMarks(middle)
        _check_part(tail)
        self._head = head
        self._middle = middle
        self._tail = tail

    @property
    def head(self):
        """The marks at the begin."""
        return self._head

    @property
    def middle(self):
        """The marks that are said again and again."""
        return self._middle

    @property
    def tail(self):
        """The marks at the end."""
        return self._tail

    @property
    def least(self):
        """The least number of places."""
        return max(1, len(self._head) + len(self._tail))

    def row(self, places):
        """The row for so many places."""
        _check_places(self, places)
        if places > MOST_PLACES:
            raise TooMany("places", MOST_PLACES)
        between = places - len(self._head) - len(self._tail)
        return self._head + (self._middle * between)[:between] + self._tail

    def mark(self, places, place):
        """The mark at a place, for so many places."""
        _check_places(self, places)
        if not is_integer(place) or place < 1 or place > places:
            raise InvalidPlace(place)
        if place <= len(self._head):
            return self._head[place - 1]
        ahead = places - len(self._tail)
        if place > ahead:
            return self._tail[place - ahead - 1]
        return self._middle[(place - len(self._head) - 1) % len(self._middle)]

    def homes(self, places, place):
        """How many marks "h" the first so many places have, for so many places."""
        _check_places(self, places)
        if not is_integer(place) or place < 0 or place > places:
            raise InvalidPlace(place)
        begin = len(self._head)
        end = places - len(self._tail)
        in_head = self._head[:place].count("h")
        in_tail = self._tail[:max(0, place - end)].count("h")
        return in_head + times_said(self._middle, "h", max(0, min(place, end) - begin)) + in_tail

    def contrary(self):
        """The Word with the contraries of all marks."""
        return Word(contrary_marks(self._head), contrary_marks(self._middle), contrary_marks(self._tail))

    def reduced(self):
        """The alike Word with the shortest middle, then the shortest head, then the shortest tail."""
        head = self._head
        middle = _shortest_said(self._middle)
        tail = self._tail
        while head != "" and head[-1] == middle[-1]:
            head = head[:-1]
            middle = middle[-1] + middle[:-1]
        # Before the tail a middle of both marks ends now with one of them, now with the other.
        if len(middle) == 1:
            tail = tail.lstrip(middle)
        return Word(head, middle, tail)

    def __eq__(self, other):
        return (isinstance(other, Word) and self._head == other._head
                and self._middle == other._middle and self._tail == other._tail)

    def __str__(self):
        return f"{self._head}|{self._middle}|{self._tail}"

    def __repr__(self):
        return f"Word({self._head!r}, {self._middle!r}, {self._tail!r})"


def same_rows(one, other):
    """Whether two Words are alike [22]."""
    return one.reduced() == other.reduced()


def first_unlike_place(one, other):
    """The least (places, place) at which two Words tell different marks, None if they are alike."""
    if same_rows(one, other):
        return None
    # Words that are not alike differ within a few places, far below the limit of row.
    places = max(one.least, other.least)
    while one.row(places) == other.row(places):
        places = places + 1
    return places, _first_difference(one.row(places), other.row(places))


def _check_part(marks):
    if not is_marks(marks) or len(marks) > MOST_MARKS:
        raise InvalidMarks(marks)


def _check_places(word, places):
    if not is_integer(places) or places < word.least:
        raise InvalidPlace(places)


def _first_difference(row, other):
    """The first place, from 1, with different marks in two rows of one length that are not equal."""
    place = 1
    while row[place - 1] == other[place - 1]:
        place = place + 1
    return place


def _shortest_said(middle):
    """The shortest marks that, said again and again, are the middle said again and again."""
    for length in range(1, len(middle)):
        if middle[:length] * (len(middle) // length) == middle:
            return middle[:length]
    return middle
