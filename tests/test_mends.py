import unittest
from itertools import product
from random import Random

from ringrows.errors import InvalidFixed, InvalidGauge, NotSingle
from ringrows.mends import gauge_above, gauge_of, is_even, is_mend, mend, mend_size, shown
from ringrows.rules import Rule
from ringrows.tables import Table, table_of
from ringrows.words import Word
from tests.made import KNOWN, NO_INTEGERS, Refusing
from tests.slow import even_homes, fewest_turned, gauge_show, homes_by_team

LEAN = Table([[(0, 1), (2, 3)], [(0, 2), (1, 3)], [(0, 3), (1, 2)]])
DAY = [(0, 3), (1, 2)]
# Tables that are not single, each with the least two teams that do not meet just once.
ODD = [(Table([DAY]), 0, 1), (Table([DAY, [(0, 1), (2, 3)], DAY]), 0, 2), (Table([DAY] * 3), 0, 1),
       (Table(LEAN.rounds() + [DAY]), 0, 3), (table_of(Rule(3, Word("", "h", ""), "home"), 4), 0, 1),
       (Table([[(2, 3), (0, 1)], [(0, 2), (3, 1)], [(0, 3), (1, 2)], [(0, 2), (1, 3)]]), 0, 2)]
WRONG_FIXED = [(None, None), (True, None), (0, None), ("", None), ({}, None), (LEAN, None), ([None], 0), ([(1, 0)], 0),
               ([(0, 1), (0, 1)], 1), ([(0, 1), [2, 3]], 1), (((0, 1), (2, 3), (0, True)), 2), ([(0, 4)], 0)]


def meetings_of(table):
    return [meeting for meetings in table.rounds() for meeting in meetings]


def random_single(random, size):
    """A single table with homes and aways by chance, or with teams that are mostly at home."""
    table = table_of(KNOWN, size)
    lean = random.choice((0, 0.3, 0.5, 0.8, 1))
    return table.with_turned([(home, away) for home, away in meetings_of(table)
                              if (home > away) == (random.random() < lean)])


def all_of_four():
    """All single tables of one sequence of pairs with four teams."""
    told = meetings_of(LEAN)
    for turned in product((False, True), repeat=6):
        yield LEAN.with_turned([meeting for meeting, is_turned in zip(told, turned) if is_turned])


class TestMends(unittest.TestCase):
    def check(self, table, fixed, slow):
        """Holds mend, gauge and size against how many meetings have to be turned, None if none will do."""
        told = mend(table, fixed)
        gauge = gauge_of(table, fixed)
        self.assertEqual(mend_size(table, fixed), slow)
        if slow is None:
            self.assertEqual((told, gauge), (None, None))
            for number in (0, 1, 7, 10 ** 60):
                self.assertGreater(gauge_show(table.rounds(), table.size, fixed, gauge_above(table, fixed, number)),
                                   number)
            return
        self.assertIs(told.__class__, list)
        self.assertEqual((len(told), told, len(set(told))), (slow, sorted(told), slow))
        self.assertTrue(set(told) <= set(meetings_of(table)) - set(fixed))
        self.assertTrue(even_homes(homes_by_team(table.with_turned(told).rounds(), table.size)))
        self.assertIs(is_mend(table, fixed, told), True)
        self.assertIs(gauge.__class__, list)
        self.assertEqual(gauge_show(table.rounds(), table.size, fixed, gauge), slow)
        self.assertEqual(shown(table, fixed, gauge), slow)
        self.assertIsNone(gauge_above(table, fixed, slow))
        for number in range(slow):
            self.assertGreater(shown(table, fixed, gauge_above(table, fixed, number)), number)

    def test_all_tables_of_four(self):
        random = Random(501)
        sizes = set()
        for table in all_of_four():
            told = meetings_of(table)
            for many in (0, 1, 2, 3, 4, 5, 6):
                fixed = random.sample(told, many)
                slow = fewest_turned(table.rounds(), 4, fixed)
                self.check(table, fixed, slow)
                sizes.add(slow)
            self.assertIs(is_even(table), fewest_turned(table.rounds(), 4, []) == 0)
        self.assertTrue({None, 0, 1, 2} <= sizes)

    def test_tables_of_six(self):
        random = Random(502)
        sizes = []
        for at in range(40):
            table = random_single(random, 6)
            fixed = random.sample(meetings_of(table), 0 if at < 3 else random.randint(5, 13))
            sizes.append(fewest_turned(table.rounds(), 6, fixed))
            self.check(table, tuple(fixed), sizes[-1])
        self.assertIn(None, sizes)
        self.assertGreater(len(set(sizes)), 3)

    def test_up_to_twenty_four_teams(self):
        random = Random(503)
        found = []
        for size in (8, 10, 12, 16, 20, 24):
            for _ in range(8):
                table = random_single(random, size)
                told = meetings_of(table)
                fixed = random.sample(told, random.choice((0, len(told) // 3, len(told) * 2 // 3)))
                slow = mend_size(table, fixed)
                found.append(slow)
                # A mend with as many meetings as a gauge shows is one with the fewest.
                self.check(table, fixed, slow)
        self.assertIn(None, found)
        self.assertGreater(max(many for many in found if many is not None), 30)

    def test_as_lean_as_can_be(self):
        for size in (4, 12, 24):
            table = table_of(KNOWN, size)
            lean = table.with_turned([(home, away) for home, away in meetings_of(table) if home > away])
            # The team x is at home in size - 1 - x rounds; each meeting that is turned helps two teams by one.
            above = sum(size // 2 - 1 - x for x in range(size // 2))
            self.assertEqual(mend_size(lean), above)
            self.check(lean, [], above)

    def test_even_tables(self):
        for size in (4, 6, 24):
            table = table_of(KNOWN, size)
            self.assertIs(is_even(table), True)
            self.assertEqual((mend(table), mend_size(table)), ([], 0))
            self.check(table, meetings_of(table), 0)
            self.assertIs(is_even(table.with_turned(meetings_of(table))), True)
        self.assertIs(is_even(table=LEAN), False)

    def test_all_fixed(self):
        for table in (LEAN, table_of(Rule(2, Word("", "h", ""), "home"), 24)):
            self.check(table, meetings_of(table), None)

    def test_known(self):
        self.assertEqual((mend(LEAN), mend_size(LEAN), mend_size(LEAN, [(0, 3)])), ([(0, 3)], 1, 2))
        self.assertEqual(mend(table=LEAN, fixed=[(0, 1), (2, 3)]), [(0, 3)])
        self.assertEqual(mend(LEAN, ((0, 3),)), mend(LEAN, [(0, 3)]))
        self.assertEqual(mend_size(table=LEAN, fixed=((0, 3),)), 2)
        self.assertEqual(shown(table=LEAN, fixed=(), gauge=gauge_of(table=LEAN, fixed=())), 1)

    def test_what_is_passed_stays(self):
        fixed, gauge, value, rounds = [(0, 3), (0, 1)], [3, -2, 0, 9], [(1, 3), (0, 2)], LEAN.rounds()
        mend(LEAN, fixed)
        gauge_of(LEAN, fixed)
        shown(LEAN, fixed, gauge)
        is_mend(LEAN, fixed, value)
        self.assertEqual((fixed, gauge, value, LEAN.rounds()),
                         ([(0, 3), (0, 1)], [3, -2, 0, 9], [(1, 3), (0, 2)], rounds))
        mend(LEAN).append(None)
        gauge_of(LEAN).append(None)
        self.assertEqual((mend(LEAN), len(gauge_of(LEAN))), ([(0, 3)], 4))


class TestIsMend(unittest.TestCase):
    def test_all_sets_of_four(self):
        random = Random(504)
        for table in random.sample(list(all_of_four()), 20):
            told = sorted(meetings_of(table))
            fixed = random.sample(told, random.randint(0, 3))
            for taken in product((False, True), repeat=6):
                value = [meeting for meeting, is_taken in zip(told, taken) if is_taken]
                is_one = (even_homes(homes_by_team(table.with_turned(value).rounds(), 4))
                          and not set(value) & set(fixed))
                self.assertIs(is_mend(table, fixed, value), is_one)
                self.assertIs(is_mend(table, tuple(fixed), tuple(value)), is_one)
                if len(value) > 1:
                    self.assertIs(is_mend(table, fixed, value[::-1]), False)
                    self.assertIs(is_mend(table, fixed, value + value[-1:]), False)

    def test_any_values(self):
        self.assertIs(is_mend(LEAN, [], [(0, 3)]), True)
        self.assertIs(is_mend(value=[(0, 3)], fixed=[(0, 1)], table=LEAN), True)
        self.assertIs(is_mend(LEAN, [(0, 3)], [(0, 3)]), False)
        for value in (None, True, 0, 1, "03", "", b"", {}, {(0, 3): True}, LEAN, KNOWN, (0, 3), [0, 3], [[0, 3]], [()],
                      [(3, 0)], [(0, 3), (0, 3)], [(0, 3), None], [None, (0, 3)], [(0, True)], [(False, 3)],
                      [(0, 3, 1)],
                      [(0, 4)], [("0", "3")], ["03"], [(0, 3), (0, 1)], [], (), [{}], [[]], [(0, [3])],
                      [(0, 10 ** 60)]):
            self.assertIs(is_mend(LEAN, [], value), False, value)
        even = table_of(KNOWN, 4)
        for value, told in (([], True), ((), True), (None, False), ({}, False), ("", False)):
            self.assertIs(is_mend(even, [], value), told)


class TestShown(Refusing, unittest.TestCase):
    def test_any_gauges(self):
        random = Random(505)
        for at in range(300):
            size = random.choice((4, 4, 6, 8, 24))
            table = random_single(random, size)
            told = meetings_of(table)
            fixed = random.sample(told, random.randint(0, len(told)))
            reach = random.choice((1, 3, 50, 10 ** 60))
            gauge = [random.randint(-reach, reach) for _ in range(size)]
            slow = gauge_show(table.rounds(), size, fixed, gauge)
            self.assertEqual(shown(table, fixed, gauge if at % 2 else tuple(gauge)), slow)
            least = mend_size(table, fixed)
            if least is not None:
                self.assertLessEqual(slow, least)

    def test_targets_by_all_choices(self):
        # The least sum is found among all choices of the teams with the greater target.
        random = Random(506)
        for _ in range(100):
            table = random_single(random, 6)
            gauge = [random.randint(-5, 5) for _ in range(6)]
            homes = homes_by_team(table.rounds(), 6)
            sums = [sum(gauge[x] * (2 + more[x] - homes[x]) for x in range(6))
                    for more in product((0, 1), repeat=6) if sum(more) == 3]
            self.assertEqual(shown(table, meetings_of(table), gauge), min(sums))

    def test_level_gauges(self):
        for height in (0, 1, -7, 10 ** 60):
            self.assertEqual(shown(LEAN, [], [height] * 4), 0)
        self.assertEqual(shown(LEAN, [], [0, 0, 0, 1]), 1)

    def test_gauges_refused(self):
        for table, fixed in ((LEAN, []), (LEAN, ((0, 3),)), (ODD[0][0], [(0, 3)])):
            for gauge in (None, True, 0, "0000", b"0000", {}, {0: 1, 1: 2, 2: 3, 3: 4}, KNOWN, [], (), [0] * 3, [0] * 5,
                          [None] * 5):
                self.refused(InvalidGauge, None, shown, table, fixed, gauge)
            for wrong in NO_INTEGERS:
                self.refused(InvalidGauge, 0, shown, table, fixed, [wrong] * 4)
                self.refused(InvalidGauge, 2, shown, table, fixed, (0, 10 ** 60, wrong, None))
                self.refused(InvalidGauge, 3, shown, table, fixed, [0, -1, 2, wrong])


class TestRefused(Refusing, unittest.TestCase):
    def not_single(self, one, other, call, *told):
        with self.assertRaises(NotSingle) as caught:
            call(*told)
        self.assertEqual((caught.exception.one, caught.exception.other), (one, other))

    def test_fixed(self):
        for table in (LEAN, Table(LEAN.rounds()[:1])):
            for fixed, position in WRONG_FIXED:
                for call, *told in ((mend,), (mend_size,), (gauge_of,), (is_mend, None), (shown, None),
                                    (shown, [0] * 4)):
                    self.refused(InvalidFixed, position, call, table, fixed, *told)

    def test_not_single(self):
        for table, one, other in ODD:
            fixed = meetings_of(table)[:1]
            self.not_single(one, other, is_even, table)
            for call, *told in ((mend,), (mend_size,), (gauge_of,), (is_mend, None), (is_mend, []),
                                (shown, [0] * 4)):
                self.not_single(one, other, call, table, fixed, *told)
            for call in (mend, mend_size, gauge_of):
                self.not_single(one, other, call, table)
        double = Table(table_of(KNOWN, 24).rounds() * 2)
        self.not_single(0, 1, is_even, double)


if __name__ == "__main__":
    unittest.main()
