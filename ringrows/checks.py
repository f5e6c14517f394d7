"""What values are: INTEGERS, COUNTS, lists and MARKS."""

CONTRARIES = {"h": "a", "a": "h"}


def is_integer(value):
    """Whether any value is an INTEGER: an int, but no bool."""
    return isinstance(value, int) and not isinstance(value, bool)


def is_count(value):
    """Whether any value is an INTEGER that is at least 0."""
    return is_integer(value) and value >= 0


def is_list(value):
    """Whether any value may be passed where a list is told."""
    return isinstance(value, (list, tuple))


def is_marks(value):
    """Whether any value is a string of marks, the empty one included."""
    return isinstance(value, str) and value.count("h") + value.count("a") == len(value)


def contrary_marks(marks):
    """The string of the contraries of all marks."""
    return "".join([CONTRARIES[mark] for mark in marks])
