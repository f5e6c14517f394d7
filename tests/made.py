"""What the tests make and refuse: rules, pictures, and values of wrong kinds."""

from ringrows.errors import TooMany
from ringrows.pictures import Picture
from ringrows.rules import Rule
from ringrows.words import Word
from tests.slow import STANDERS, all_words

WORDS = all_words()
STEPS = [step for step in range(-7, 8) if step != 0]
NO_INTEGERS = [None, True, False, "3", b"3", [], [3], (3,), {}, {3: 3}, Word("", "h", "")]
KNOWN = Rule(1, Word("", "ha", ""), "even")


def random_rule(random, steps=STEPS):
    return Rule(random.choice(steps), Word(*random.choice(WORDS)), random.choice(STANDERS), random.random() < 0.5)


def random_cells(random, ahead=5, later=3):
    while True:
        cells = [(random.randint(-ahead, ahead), random.randint(0, later), random.choice("ha"))
                 for _ in range(random.randint(1, 5))]
        if len({cell[:2] for cell in cells}) == len(cells) and 0 in [cell[1] for cell in cells]:
            return cells


def random_picture(random, ahead=5, later=3):
    return Picture(random_cells(random, ahead, later))


def no_sizes(rule):
    """Values that are none of the sizes of a rule."""
    least = rule.least_size
    return NO_INTEGERS + [0, 1, -4, least - 2, least - 1, least + 1, 10 ** 59 + 1, -10 ** 60, str(least), rule]


def no_teams(teams):
    """Values that are none of so many teams."""
    return NO_INTEGERS + [teams, -1, teams + 1, -teams, 10 ** 60, -10 ** 60]


class Refusing:
    """Beside TestCase: that a call raises just this error, with just this value."""

    def refused(self, kind, value, call, *values, **named):
        with self.assertRaises(kind) as caught:
            call(*values, **named)
        self.assertIs(caught.exception.__class__, kind)
        [told] = vars(caught.exception).values()
        self.assertEqual(told, value)
        self.assertIs(told.__class__, value.__class__)

    def too_many(self, what, limit, call, *values):
        with self.assertRaises(TooMany) as caught:
            call(*values)
        self.assertIs(caught.exception.__class__, TooMany)
        self.assertEqual((caught.exception.what, caught.exception.limit), (what, limit))
