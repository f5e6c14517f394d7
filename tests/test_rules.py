import unittest

from ringrows.errors import InvalidStander, InvalidStep, InvalidTurned
from ringrows.rules import Rule
from ringrows.words import Word
from tests.made import NO_INTEGERS, STEPS, WORDS, Refusing
from tests.slow import STANDERS, contrary, word_least

WORD = Word("ha", "a", "h")
OTHERS = {"home": "away", "away": "home", "even": "odd", "odd": "even"}


def all_rules():
    return [Rule(step, Word(*parts), stander, turned)
            for step in STEPS for parts in WORDS[::211] for stander in STANDERS for turned in (False, True)]


class TestMade(Refusing, unittest.TestCase):
    def test_steps_refused(self):
        for step in NO_INTEGERS + [0, 8, -8, 10 ** 60, -10 ** 60, "home", WORD]:
            self.refused(InvalidStep, step, Rule, step, WORD, "home")
            self.refused(InvalidStep, step, Rule, step, WORD, "nobody", 1)
            self.refused(InvalidStep, step, Rule, step=step, word=WORD, stander=step, turned=step)

    def test_standers_refused(self):
        for stander in (None, True, False, 0, 1, "", "Home", "home ", "h", "a", "evens", "homeaway", b"home",
                        ["home"], ("home",), {"home": "home"}, [], {}, WORD):
            self.refused(InvalidStander, stander, Rule, 1, WORD, stander)
            self.refused(InvalidStander, stander, Rule, 1, WORD, stander, 1)
            self.refused(InvalidStander, stander, Rule, turned=None, stander=stander, word=WORD, step=-7)

    def test_turned_refused(self):
        for turned in (None, 0, 1, 2, "", "turned", "plain", "True", [], [True], (False,), {}, WORD):
            self.refused(InvalidTurned, turned, Rule, 1, WORD, "home", turned)
            self.refused(InvalidTurned, turned, Rule, 7, WORD, "odd", turned=turned)

    def test_parts(self):
        for step in STEPS:
            for stander in STANDERS:
                for turned in (False, True):
                    rule = Rule(step, WORD, stander, turned)
                    self.assertEqual((rule.step, rule.word, rule.stander), (step, WORD, stander))
                    self.assertIs(rule.turned, turned)
                    self.assertEqual(rule, Rule(turned=turned, stander=stander, word=WORD, step=step))
        self.assertIs(Rule(1, WORD, "home").turned, False)

    def test_least_size(self):
        for parts in WORDS[::13]:
            self.assertEqual(Rule(1, Word(*parts), "home").least_size, 2 * word_least(*parts) + 2)
        told = [("", "h", ""), ("h", "h", ""), ("", "haha", ""), ("h", "h", "a"), ("haha", "h", "aaaa")]
        self.assertEqual([Rule(1, Word(*parts), "home").least_size for parts in told], [4, 4, 4, 6, 18])

    def test_never_changes(self):
        rule = Rule(1, WORD, "home")
        for name in ("step", "word", "stander", "turned", "least_size"):
            with self.assertRaises(AttributeError):
                setattr(rule, name, 2)


class TestSame(unittest.TestCase):
    def test_contrary(self):
        for rule in all_rules():
            other = rule.contrary()
            self.assertEqual((other.step, other.turned, other.stander),
                             (rule.step, rule.turned, OTHERS[rule.stander]))
            for mine, yours in ((rule.word.head, other.word.head), (rule.word.middle, other.word.middle),
                                (rule.word.tail, other.word.tail)):
                self.assertEqual("".join(contrary(mark) for mark in mine), yours)
            self.assertFalse(rule == other)
            self.assertEqual(other.contrary(), rule)
        self.assertEqual(repr(Rule(-3, Word("ha", "a", "h"), "odd", True).contrary()),
                         "Rule(-3, Word('ah', 'h', 'a'), 'even', True)")

    def test_equal(self):
        rule = Rule(2, Word("h", "ha", ""), "even", True)
        self.assertIs(rule == Rule(2, Word("h", "ha", ""), "even", True), True)
        self.assertIs(rule != Rule(2, Word("h", "ha", ""), "even", True), False)
        self.assertEqual(Rule(2, Word("h", "ha", ""), "even"), Rule(2, Word("h", "ha", ""), "even", False))
        for other in (Rule(-2, rule.word, "even", True), Rule(1, rule.word, "even", True),
                      Rule(2, Word("", "ha", ""), "even", True), Rule(2, Word("h", "ha", "h"), "even", True),
                      Rule(2, Word("h", "haha", ""), "even", True), Rule(2, rule.word, "odd", True),
                      Rule(2, rule.word, "home", True), Rule(2, rule.word, "even", False), rule.word,
                      str(rule), repr(rule), (2, rule.word, "even", True), None, 2, True):
            self.assertIs(rule == other, False)
            self.assertIs(other == rule, False)
            self.assertIs(rule != other, True)

    def test_texts(self):
        self.assertEqual(str(Rule(1, Word("", "ha", ""), "even")), "1 |ha| even plain")
        self.assertEqual(str(Rule(-3, Word("ha", "a", "h"), "odd", True)), "-3 ha|a|h odd turned")
        self.assertEqual(str(Rule(-3, Word("ha", "a", "h"), "even")), "-3 ha|a|h even plain")
        self.assertEqual(str(Rule(1, Word("", "ha", ""), "odd", True)), "1 |ha| odd turned")
        self.assertEqual(str(Rule(7, Word("", "h", "aaaa"), "home", True)), "7 |h|aaaa home turned")
        self.assertEqual(repr(Rule(1, Word("", "ha", ""), "even")), "Rule(1, Word('', 'ha', ''), 'even', False)")
        for rule in all_rules():
            word = rule.word
            told = [str(rule.step), f"{word.head}|{word.middle}|{word.tail}", rule.stander,
                    "turned" if rule.turned else "plain"]
            self.assertEqual(str(rule), " ".join(told))
            self.assertEqual(repr(rule), f"Rule({rule.step}, {word!r}, '{rule.stander}', {rule.turned})")
            self.assertEqual(eval(repr(rule)), rule)


if __name__ == "__main__":
    unittest.main()
