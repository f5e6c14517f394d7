"""Rules [31]: a step of the ring, a word of the places, what the standing team has, and whether it is turned."""

from ringrows.checks import is_integer
from ringrows.errors import InvalidStander, InvalidStep, InvalidTurned

MOST_STEP = 7
CONTRARY_STANDERS = {"home": "away", "away": "home", "even": "odd", "odd": "even"}


class Rule:
    """A rule: it tells a league for each even number of teams from its least size on."""

    def __init__(self, step, word, stander, turned=False):
        if not is_integer(step) or step == 0 or abs(step) > MOST_STEP:
            raise InvalidStep(step)
        if not isinstance(stander, str) or stander not in CONTRARY_STANDERS:
            raise InvalidStander(stander)
        if not isinstance(turned, bool):
            raise InvalidTurned(turned)
        self._step = step
        self._word = word
        self._stander = stander
        self._turned = turned

    @property
    def step(self):
        """By how many places the ring goes on after each round."""
        return self._step

    @property
    def word(self):
        """The Word of the marks at the places."""
        return self._word

    @property
    def stander(self):
        """When the standing team is at home."""
        return self._stander

    @property
    def turned(self):
        """Whether the marks of the places are exchanged in the odd rounds."""
        return self._turned

    @property
    def least_size(self):
        """The least number of teams."""
        return 2 * self._word.least + 2

    def contrary(self):
        """The Rule that tells home where this one tells away."""
        return Rule(self._step, self._word.contrary(), CONTRARY_STANDERS[self._stander], self._turned)

    def __eq__(self, other):
        return (isinstance(other, Rule) and self._step == other._step and self._word == other._word
                and self._stander == other._stander and self._turned == other._turned)

    def __str__(self):
        return f"{self._step} {self._word} {self._stander} {_turned_text(self._turned)}"

    def __repr__(self):
        return f"Rule({self._step}, {self._word!r}, {self._stander!r}, {self._turned})"


def _turned_text(turned):
    return "turned" if turned else "plain"
