import unittest
from random import Random

from ringrows.breaks import breaks_at, breaks_form, first_wasteful, is_thrifty
from ringrows.errors import InvalidSize
from ringrows.forms import Form
from ringrows.rules import Rule
from ringrows.words import Word
from tests.made import KNOWN, STEPS, Refusing, no_sizes, random_rule
from tests.slow import STANDERS, contrary, league, reduced_parts, told_on

ALTERNATING = [("", "ha", ""), ("", "ah", ""), ("h", "ah", ""), ("ha", "ha", "")]


def bound_of(rule):
    return 2 * (abs(rule.step) + 1) + len(rule.word.head + rule.word.tail)


def slow_breaks(rule, places):
    return league(rule, 2 * places + 2).breaks()


def slow_wasteful(rule):
    """The least wasteful size up to some more places than the bound and three middles."""
    for places in range(rule.word.least, bound_of(rule) + 3 * len(rule.word.middle) + 1):
        if slow_breaks(rule, places) != 2 * places:
            return 2 * places + 2
    return None


class TestNumbers(Refusing, unittest.TestCase):
    def test_against_the_rows(self):
        random = Random(101)
        for _ in range(150):
            rule = random_rule(random)
            for places in range(rule.word.least, rule.word.least + 4):
                self.assertEqual(breaks_at(rule, 2 * places + 2), slow_breaks(rule, places), (rule, places))
        self.assertEqual([breaks_at(size=6, rule=KNOWN), breaks_at(KNOWN, 4), breaks_at(KNOWN, 10 ** 60)],
                         [4, 2, 10 ** 60 - 2])

    def test_each_step_stander_and_turned(self):
        for step in STEPS:
            for stander in STANDERS:
                for turned in (False, True):
                    rule = Rule(step, Word("", "hah", "a"), stander, turned)
                    for places in (1, 2, 3, 4, 7):
                        self.assertEqual(breaks_at(rule, 2 * places + 2), slow_breaks(rule, places), (rule, places))

    def test_at_sixty_digits(self):
        random = Random(102)
        for _ in range(10):
            rule = random_rule(random)
            period = len(rule.word.middle)
            place = 10 ** 60 - random.randint(2, 20)
            least = bound_of(rule) + (place - bound_of(rule)) % period
            near = {at: slow_breaks(rule, at) for at in (least, least + period, least + 2 * period)}
            self.assertEqual(breaks_at(rule, 2 * place + 2), told_on(near, place))
            self.assertEqual(breaks_form(rule)(place), told_on(near, place))

    def test_sizes_refused(self):
        for rule in (KNOWN, Rule(-3, Word("ha", "a", "h"), "even")):
            for size in no_sizes(rule):
                self.refused(InvalidSize, size, breaks_at, rule, size)



class TestForms(unittest.TestCase):
    def test_values_first_and_reduced(self):
        random = Random(103)
        for _ in range(25):
            rule = random_rule(random)
            form = breaks_form(rule)
            self.assertEqual(form.first, rule.word.least)
            self.assertEqual(reduced_parts(form.first, form.early(), form.rows()), (form.early(), form.rows()))
            self.assertLessEqual(form.begin, bound_of(rule))
            for places in range(form.first, min(bound_of(rule) + 2 * len(rule.word.middle) + 2, 20)):
                self.assertEqual(form(places), slow_breaks(rule, places), (rule, places))
            for places in (97, 98, 10 ** 60, 10 ** 60 + 1, 10 ** 60 + 2, 10 ** 60 + 3):
                self.assertEqual(form(places), breaks_at(rule, 2 * places + 2))

    def test_known(self):
        self.assertEqual(breaks_form(KNOWN), Form(1, [], [(0, 2, 0)]))
        self.assertEqual(breaks_form(rule=KNOWN.contrary()), Form(1, [], [(0, 2, 0)]))
        # The standing team alone has 2 * p breaks more.
        for stander, more in (("home", 2), ("away", 2), ("even", 0), ("odd", 0)):
            rule = Rule(1, Word("", "ha", ""), stander)
            self.assertEqual(breaks_form(rule)(50), slow_breaks(rule, 50))
            self.assertGreaterEqual(breaks_form(rule)(50), more * 50)


class TestThrifty(unittest.TestCase):
    def check(self, rule):
        told = slow_wasteful(rule)
        self.assertEqual(first_wasteful(rule), told, rule)
        self.assertIs(is_thrifty(rule), told is None)
        return told

    def test_thrifty_rules(self):
        thrifty = []
        for step in (-1, 1):
            for parts in ALTERNATING:
                for stander in STANDERS:
                    rule = Rule(step, Word(*parts), stander)
                    if self.check(rule) is None:
                        thrifty.append(rule)
        self.assertIn(KNOWN, thrifty)
        self.assertIn(KNOWN.contrary(), thrifty)
        for rule in thrifty:
            self.assertTrue(all(breaks_at(rule, n) == n - 2 for n in range(rule.least_size, 60, 2)))

    def test_one_mark_other(self):
        parted = []
        for head, middle, tail in (("haha", "ha", ""), ("ha", "ha", ""), ("h", "ah", ""), ("hah", "ah", "")):
            self.assertIsNone(self.check(Rule(1, Word(head, middle, tail), "even")))
            for at, mark in enumerate(head):
                other = head[:at] + contrary(mark) + head[at + 1:]
                parted.append(self.check(Rule(1, Word(other, middle, tail), "even")))
            for mark in "ha":
                for tail in (mark, mark + "h", mark + "a", "ha" + mark):
                    parted.append(self.check(Rule(1, Word(head, middle, tail), "even")))
        self.assertGreater(len(set(parted)), 4)
        self.assertNotIn(None, parted)

    def test_wasteful_at_some_sizes_only(self):
        random = Random(104)
        found = []
        words = [("h", "ah", ""), ("", "hah", ""), ("", "ha", "h"), ("", "ha", "a"), ("", "hhaa", ""), ("", "h", "a"),
                 ("", "ha", "ah"), ("h", "a", "h"), ("", "haah", ""), ("", "h", ""), ("", "hha", ""), ("", "haha", "h")]
        for parts in words:
            for step in (-3, -1, 1, 2, 3):
                for stander in STANDERS:
                    rule = Rule(step, Word(*parts), stander, random.random() < 0.5)
                    self.check(rule)
                    wasteful = [breaks_at(rule, n) != n - 2 for n in range(rule.least_size, 60, 2)]
                    if True in wasteful and False in wasteful:
                        found.append(first_wasteful(rule) > rule.least_size)
        self.assertEqual(set(found), {True, False})

    def test_random_rules(self):
        random = Random(105)
        for _ in range(60):
            self.check(random_rule(random, [-2, -1, 1, 2]))


if __name__ == "__main__":
    unittest.main()
