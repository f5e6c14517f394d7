"""Which rule is behind a table [83]."""

from ringrows.checks import contrary_marks
from ringrows.rules import Rule
from ringrows.tables import table_of
from ringrows.words import MOST_MARKS, Word

# The steps in the order of the rules.
STEPS = (1, -1, 2, -2, 3, -3, 4, -4, 5, -5, 6, -6, 7, -7)
# The standers by the marks of the standing team in the first two rounds.
STANDERS = {"hh": "home", "aa": "away", "ha": "even", "ah": "odd"}


def is_behind(rule, table):
    """Whether a table is that of a rule."""
    return table.size >= rule.least_size and table == table_of(rule, table.size)


def rule_behind(table):
    """The first rule behind a table, None if there is none."""
    if len(table) != table.size - 1:
        return None
    for step in STEPS:
        rule = _only_rule(table, step)
        if is_behind(rule, table):
            return rule
    return None


def _only_rule(table, step):
    """The first one of the rules with a step that can be behind a table; if it is not, none of them is."""
    # In the round 0 the places are those of the teams from 1 on; who is at the place 1 in the next
    # round tells there whether the rule is turned.
    places = table.size // 2 - 1
    marks = "".join([table.row_of(team)[0] for team in range(1, places + 1)])
    later = table.row_of((1 + step) % (table.size - 1))[1]
    stander = STANDERS[table.row_of(table.size - 1)[:2]]
    return Rule(step, _first_word(marks), stander, later == contrary_marks(marks[0]))


def _first_word(row):
    """The first word with a row of at most eleven marks: the shortest one, then by middle, head and tail."""
    words = []
    for head in range(min(MOST_MARKS, len(row)) + 1):
        for tail in range(min(MOST_MARKS, len(row) - head) + 1):
            end = len(row) - tail
            words.extend([(head + tail + len(middle), middle, row[:head], row[end:])
                          for middle in _middles_of(row[head:end])])
    _, middle, first, last = min(words)
    return Word(first, middle, last)


def _middles_of(marks):
    """The middles that, said again and again, begin with some marks."""
    told = []
    middles = ["h", "a"]
    while len(middles[0]) <= MOST_MARKS:
        told.extend([middle for middle in middles if (middle * len(marks))[:len(marks)] == marks])
        middles = [middle + mark for middle in middles for mark in "ha"]
    return told
