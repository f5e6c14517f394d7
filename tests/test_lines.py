import unittest
from itertools import groupby
from random import Random

from ringrows.errors import InvalidMarks
from ringrows.lines import breaks_in, first_odd_pair, followings, is_single, stays_in
from ringrows.rules import Rule
from ringrows.seats import is_right
from ringrows.tables import Table, table_of
from ringrows.words import Word
from tests.made import KNOWN, Refusing, random_rule
from tests.test_tables import random_rounds


def times_met(rounds, one, other):
    return sum(meeting in ((one, other), (other, one)) for meetings in rounds for meeting in meetings)


def odd_pair_by_hand(rounds, size):
    odd = [(x, y, times_met(rounds, x, y)) for y in range(size) for x in range(y)]
    return min([told for told in odd if told[2] != 1], default=None)


def followings_by_hand(rounds, size):
    told = {}
    for before, behind in zip(rounds, rounds[1:]):
        for i in range(size):
            for j in range(size):
                if any({(t, i), (i, t)} & set(before) and {(t, j), (j, t)} & set(behind) for t in range(size)):
                    told[i, j] = told.get((i, j), 0) + 1
    return told


class TestRows(Refusing, unittest.TestCase):
    def test_against_grouping(self):
        random = Random(61)
        rows = ["h", "a", "hh", "ha", "ah", "aaa", "haha", "hhaaah", "h" * 300, "ha" * 150, "hhaa" * 5000]
        rows += ["".join(random.choice("ha") for _ in range(random.randint(1, 150))) for _ in range(300)]
        for row in rows:
            self.assertEqual(stays_in(row), [len(list(run)) for _, run in groupby(row)])
            self.assertEqual(breaks_in(row), sum(row[at] == row[at + 1] for at in range(len(row) - 1)))
        self.assertEqual((stays_in(marks="hhaaah"), breaks_in(marks="ahh")), ([2, 3, 1], 1))

    def test_refused(self):
        for marks in (None, True, 0, 1, "", "x", "H", "ha ", " ", "hah\n", "h|a", b"ha", b"", ["h"], ("h", "a"), [], (),
                      {"h": "a"}, {}, Word("", "h", ""), "ha" * 100 + "b"):
            self.refused(InvalidMarks, marks, breaks_in, marks)
            self.refused(InvalidMarks, marks, stays_in, marks)



class TestPairs(unittest.TestCase):
    def check(self, table):
        told = odd_pair_by_hand(table.rounds(), table.size)
        self.assertEqual(first_odd_pair(table), told)
        self.assertIs(is_single(table), told is None)
        return told

    def test_tables_of_rules(self):
        random = Random(62)
        seen = []
        for _ in range(120):
            rule = random_rule(random)
            size = random.randrange(rule.least_size, 26, 2)
            table = table_of(rule, size)
            self.assertIs(is_single(table), is_right(rule, size))
            self.check(table)
            seen.append(is_right(rule, size))
        self.assertEqual(set(seen), {True, False})
        self.assertEqual(self.check(table_of(Rule(3, Word("", "h", ""), "home"), 4)), (0, 1, 0))
        self.assertEqual(self.check(table_of(Rule(5, Word("", "h", ""), "home"), 6)), (0, 1, 0))

    def test_a_round_less_or_twice(self):
        for size in (4, 6, 12, 24):
            rounds = table_of(KNOWN, size).rounds()
            self.assertIsNone(self.check(Table(rounds)))
            self.assertIsNone(self.check(Table(rounds[::-1])))
            for day in range(size - 1):
                less = self.check(Table(rounds[:day] + rounds[day + 1:]))
                self.assertEqual(less, min((min(pair), max(pair), 0) for pair in rounds[day]))
                twice = self.check(Table(rounds + [[pair[::-1] for pair in rounds[day]]]))
                self.assertEqual(twice, min((min(pair), max(pair), 2) for pair in rounds[day]))
            self.assertEqual(self.check(Table(rounds + rounds)), (0, 1, 2))
        self.assertEqual(self.check(Table([[(3, 2), (1, 0)]] * 60)), (0, 1, 60))

    def test_pairs_exchanged(self):
        random = Random(63)
        for size in (6, 8, 24):
            for _ in range(20):
                rounds = table_of(KNOWN, size).rounds()
                meetings = random.choice(rounds)
                (a, b), (c, d) = random.sample(meetings, 2)
                meetings.remove((a, b))
                meetings.remove((c, d))
                meetings.extend([(a, c), (b, d)])
                self.assertIsNotNone(self.check(Table(rounds)))

    def test_random_tables(self):
        random = Random(64)
        for size, many in ((4, 1), (4, 3), (4, 7), (6, 5), (8, 30), (24, 60)):
            for _ in range(10):
                self.check(Table(random_rounds(random, size, many)))


class TestFollowings(unittest.TestCase):
    def check(self, table):
        told = followings(table)
        self.assertEqual(told, followings_by_hand(table.rounds(), table.size))
        self.assertEqual(list(told), sorted(told))
        self.assertTrue(all(many > 0 for many in told.values()))
        self.assertEqual(sum(told.values()), table.size * (len(table) - 1))
        return told

    def test_tables_of_rules(self):
        random = Random(65)
        for _ in range(30):
            rule = random_rule(random)
            self.check(table_of(rule, random.randrange(rule.least_size, 22, 2)))
        told = self.check(table_of(KNOWN, 4))
        self.assertEqual(told[(0, 1)], 1)
        self.assertNotIn((0, 2), told)

    def test_twice_in_a_row(self):
        told = self.check(Table([[(0, 1), (2, 3)], [(1, 0), (3, 2)], [(0, 1), (2, 3)]]))
        self.assertEqual(told, {(0, 0): 2, (1, 1): 2, (2, 2): 2, (3, 3): 2})
        told = self.check(Table([[(0, 1), (2, 3), (4, 5)], [(1, 0), (2, 4), (3, 5)]]))
        self.assertEqual(told, {(0, 0): 1, (1, 1): 1, (2, 5): 1, (3, 4): 1, (4, 3): 1, (5, 2): 1})
        # A step that n - 1 divides: all pairs meet in all rounds.
        told = self.check(table_of(Rule(3, Word("", "h", ""), "home"), 4))
        self.assertEqual(told, {(team, team): 2 for team in range(4)})

    def test_random_tables(self):
        random = Random(66)
        for size, many in ((4, 2), (4, 60), (6, 9), (10, 20)):
            for _ in range(5):
                self.check(Table(random_rounds(random, size, many)))

    def test_one_round(self):
        self.assertEqual(followings(Table([[(0, 1), (2, 3)]])), {})

    def test_new_each_time(self):
        table = table_of(KNOWN, 6)
        followings(table).clear()
        self.check(table)


if __name__ == "__main__":
    unittest.main()
