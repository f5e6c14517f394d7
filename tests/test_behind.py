import unittest
from random import Random

from ringrows.behind import is_behind, rule_behind
from ringrows.rules import Rule
from ringrows.tables import Table, table_of
from ringrows.words import Word
from tests.made import KNOWN, STEPS, random_rule
from tests.slow import STANDERS, League, all_words, league, word_least, word_row
from tests.test_mends import meetings_of
from tests.test_tables import random_rounds

LONG = Word("hhah", "aha", "haaa")
# All words in the order of [83].
ORDERED = sorted(all_words(), key=lambda parts: (len("".join(parts)), (parts[1], parts[0], parts[2])))
STEPS_ORDERED = sorted(STEPS, key=lambda step: (abs(step), step < 0))


def pairs_of(rounds):
    return [{frozenset(pair) for pair in row} for row in rounds]


def first_behind(rounds, n):
    """The first rule behind rounds, by going through all of them in order; None if there is none.

    A step is left out at once if other teams meet, and a word, if in the round 0, which is never turned, its row is
    not that of the teams from 1 on.
    """
    p = n // 2 - 1
    rounds = [sorted(meetings) for meetings in rounds]
    home = {one for one, _ in rounds[0]}
    marks = "".join("h" if x in home else "a" for x in range(1, p + 1))
    words = [parts for parts in ORDERED if word_least(parts[0], "", parts[2]) <= p and word_row(*parts, p) == marks]
    for step in STEPS_ORDERED:
        plain = League(step, ("", "h", ""), "home", False, n).rounds()
        for parts in words if pairs_of(plain) == pairs_of(rounds) else []:
            for stander in STANDERS:
                for turned in (False, True):
                    if League(step, parts, stander, turned, n).rounds() == rounds:
                        return Rule(step, Word(*parts), stander, turned)
    return None


class TestIsBehind(unittest.TestCase):
    def test_tables_of_rules(self):
        random = Random(601)
        for _ in range(60):
            rule = random_rule(random)
            size = random.randrange(rule.least_size, 26, 2)
            rounds = league(rule, size).rounds()
            self.assertIs(is_behind(rule, Table(rounds)), True)
            for other in [rounds[:-1], rounds + rounds[:1], rounds[1:] + rounds[:1], rounds[::-1]]:
                self.assertIs(is_behind(rule, Table(other)), league(rule, size).rounds() == other)
            meeting = random.choice(meetings_of(Table(rounds)))
            self.assertIs(is_behind(rule, Table(rounds).with_turned([meeting])), False)
            self.assertIs(is_behind(rule.contrary(), Table(rounds)), False)

    def test_each_rule_against_each_table(self):
        random = Random(602)
        for size in (4, 6, 8):
            rules = [random_rule(random) for _ in range(30)]
            rules += [Rule(step, Word("", "h", ""), "even", turned) for step in STEPS for turned in (False, True)]
            rounds = [league(rule, size).rounds() if size >= rule.least_size else None for rule in rules]
            for rule, mine in zip(rules, rounds):
                for told in rounds:
                    if told is not None:
                        self.assertIs(is_behind(rule, Table(told)), mine == told)

    def test_sizes_that_are_none_of_the_rule(self):
        rule = Rule(1, LONG, "even")
        for size in (4, 6, 12, 16):
            self.assertIs(is_behind(rule, table_of(KNOWN, size)), False)
        self.assertIs(is_behind(table=table_of(rule, 18), rule=rule), True)
        self.assertIs(is_behind(Rule(1, Word("h", "a", "h"), "even"), table_of(KNOWN, 4)), False)
        # At the least size the middle is not said at all.
        for middle in ("h", "a", "ahha"):
            self.assertIs(is_behind(Rule(1, Word("hhah", middle, "haaa"), "even"), table_of(rule, 18)), True)


class TestRuleBehind(unittest.TestCase):
    def check(self, rounds, n):
        told = rule_behind(Table(rounds))
        self.assertEqual(told, first_behind(rounds, n), rounds)
        return told

    def test_tables_of_rules(self):
        random = Random(603)
        steps = set()
        for _ in range(150):
            rule = random_rule(random)
            size = random.choice((4, 6, 8, 8))
            if size >= rule.least_size:
                told = self.check(league(rule, size).rounds(), size)
                self.assertIs(is_behind(told, table_of(rule, size)), True)
                steps.add(told.step)
        self.assertGreaterEqual(len(steps), 6)

    def test_each_step_stander_and_turned(self):
        for step in STEPS:
            for size in (4, 6, 8):
                for stander in STANDERS:
                    for turned in (False, True):
                        rule = Rule(step, Word("a", "hha", ""), stander, turned)
                        self.check(league(rule, size).rounds(), size)

    def test_all_short_words(self):
        for parts in ORDERED[:200]:
            size = max(8, 2 * word_least(parts[0], "", parts[2]) + 2)
            self.check(League(-2, parts, "odd", True, size).rounds(), size)

    def test_great_sizes(self):
        random = Random(604)
        for _ in range(100):
            rule = random_rule(random)
            size = random.randrange(max(18, rule.least_size), 26, 2)
            table = table_of(rule, size)
            told = rule_behind(table)
            self.assertIs(is_behind(told, table), True)
            self.assertLessEqual(len(str(told.word)), len(str(rule.word)))
            # So many places tell a step from each other one, and an odd round from an even one.
            self.assertEqual((told.step, told.stander, told.turned), (rule.step, rule.stander, rule.turned))
            self.assertEqual(told.word.row(size // 2 - 1), rule.word.row(size // 2 - 1))

    def test_first_of_several(self):
        self.assertEqual(rule_behind(table_of(KNOWN, 4)), Rule(1, Word("", "h", ""), "even"))
        self.assertEqual(rule_behind(table=table_of(KNOWN, 24)), KNOWN)
        # With three rounds the steps 7, 4, -2 and 1 are the same.
        for step in (7, 4, 1, -2, -5):
            self.assertEqual(rule_behind(table_of(Rule(step, Word("", "a", ""), "odd"), 4)),
                             Rule(1, Word("", "a", ""), "odd"))
        for step in (-7, 5, 2, -1, -4):
            self.assertEqual(rule_behind(table_of(Rule(step, Word("", "a", ""), "odd"), 4)),
                             Rule(-1, Word("", "a", ""), "odd"))
        self.assertEqual(rule_behind(table_of(Rule(-6, Word("", "a", ""), "odd", True), 4)).step, 3)
        # Of several words with as many marks the one with the least middle is the first one, then the least head.
        for parts, told in ((("a", "h", ""), ("", "a", "h")), (("", "ah", ""), ("", "a", "h")),
                            (("", "ha", ""), ("h", "a", "")), (("", "hh", ""), ("", "h", ""))):
            self.assertEqual(rule_behind(table_of(Rule(1, Word(*parts), "home"), 6)).word, Word(*told))

    def test_none(self):
        random = Random(605)
        for rule in (KNOWN, Rule(-3, Word("", "hha", ""), "odd", True)):
            for size in (4, 6, 8, 24):
                rounds = table_of(rule, size).rounds()
                for other in (rounds[:-1], rounds + rounds[:1], rounds[:1], rounds * 2):
                    self.assertIsNone(rule_behind(Table(other)))
        found = set()
        for at in range(60):
            size = random.choice((4, 6, 8))
            rounds = random_rounds(random, size, size - 1)
            if at % 2 == 0:
                table = table_of(Rule(random.choice((-2, -1, 1, 2)), Word("", "hha", ""), "odd", at % 4 == 0), size)
                rounds = table.with_turned(random.sample(meetings_of(table), random.randint(1, 2))).rounds()
            found.add(self.check(rounds, size) is None)
        self.assertEqual(found, {True, False})


if __name__ == "__main__":
    unittest.main()
