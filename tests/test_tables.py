import unittest
from random import Random

from ringrows.errors import InvalidFixed, InvalidRound, InvalidRounds, InvalidSize, InvalidTeam, NotRight, TooMany
from ringrows.rules import Rule
from ringrows.tables import Table, table_of
from ringrows.words import Word
from tests.made import KNOWN, NO_INTEGERS, Refusing, no_sizes, no_teams, random_rule
from tests.slow import league

DAY = [(0, 3), (1, 2)]
WIDE = [(0, 5), (4, 1), (3, 2)]

NO_ROUNDS = [
    None, True, 0, 4, "", "h", b"h", {}, {(0, 1): (2, 3)}, KNOWN, [], (), [()], [[]], [(0, 1)], [(0, 3), (1, 2), (4,)],
    [(0, 3), [1, 2]], [[0, 3], [1, 2]], [(0, 3), (1, 2, 4)], [(0, 3), (1,)], [(0, 3), ()], [(0, 3), None],
    [(0, 3), 12], [(0, 3), "12"], ["03", "12"], [(0, 3), (1, 3)], [(0, 3), (3, 1)], [(0, 0), (1, 2)], [(0, 3), (0, 3)],
    [(0, 3), (1, 4)], [(0, 3), (1, -2)], [(-1, 0), (1, 2)], [(1, 2), (3, 4)], [(0, 3), (True, 2)], [(False, 3), (1, 2)],
    [(0, 3), ("1", 2)], [(0, 3), (1, None)], [(0, 3), (1, 10 ** 60)], [(0, 3), ((1,), 2)], [(0, 3), ([1], 2)],
    [(0, 3), ({}, 2)], [(k, 25 - k) for k in range(13)], [(0, 1)] * 12, [(k, 47 - k) for k in range(24)],
]


def random_rounds(random, size, many):
    made = []
    for _ in range(many):
        teams = list(range(size))
        random.shuffle(teams)
        made.append([(teams[k], teams[k + 1]) for k in range(0, size, 2)])
    return made


def row_by_hand(rounds, team):
    return "".join("h" if any(home == team for home, _ in meetings) else "a" for meetings in rounds)


def turned_by_hand(rounds, told):
    return [sorted((away, home) if (home, away) in told else (home, away) for home, away in meetings)
            for meetings in rounds]


class TestMade(Refusing, unittest.TestCase):
    def test_lists_and_tuples(self):
        for rounds in ([DAY], [tuple(DAY)], (DAY,), (tuple(DAY),), ([(1, 2), (0, 3)],), [((1, 2), (0, 3))]):
            table = Table(rounds)
            self.assertEqual(table.rounds(), [[(0, 3), (1, 2)]])
            self.assertIs(table.rounds().__class__, list)
            self.assertIs(table.rounds()[0].__class__, list)
            self.assertEqual(repr(table), "Table([[(0, 3), (1, 2)]])")
            self.assertEqual(table, Table(rounds=rounds))

    def test_sorted_within_a_round_alone(self):
        rounds = [[(3, 2), (0, 1)], [(2, 0), (1, 3)], [(3, 0), (1, 2)]]
        table = Table(rounds)
        self.assertEqual(table.rounds(), [[(0, 1), (3, 2)], [(1, 3), (2, 0)], [(1, 2), (3, 0)]])
        self.assertEqual([table.meetings(day) for day in range(3)], table.rounds())
        self.assertEqual(rounds[0], [(3, 2), (0, 1)])
        self.assertEqual((table.size, len(table)), (4, 3))

    def test_what_was_passed_is_copied(self):
        day = [(0, 3), (1, 2)]
        rounds = [day, list(day)]
        table = Table(rounds)
        day[0] = (3, 0)
        rounds.append(day)
        self.assertEqual(table.rounds(), [DAY, DAY])
        self.assertEqual((len(table), table.row_of(0)), (2, "hh"))

    def test_what_is_returned_is_new(self):
        table = Table([DAY, DAY])
        table.rounds()[0][0] = (3, 0)
        table.rounds().append(DAY)
        table.meetings(0).clear()
        table.met_in(0, 3).clear()
        self.assertEqual((table.rounds(), table.met_in(0, 3)), ([DAY, DAY], [0, 1]))

    def test_a_table_never_changes(self):
        for size in (4, 6, 24):
            table = table_of(KNOWN, size)
            rounds, row, told = table.rounds(), table.row_of(size - 1), repr(table)
            for other in (size, size + 2, 4, 0, None, True):
                with self.assertRaises(AttributeError):
                    table.size = other
                with self.assertRaises(AttributeError):
                    NotRight.__init__(table, other)
            # What was told, and what was passed, is changed; the table is not.
            table.rounds()[0].reverse()
            given = [list(meetings) for meetings in rounds]
            made = Table(given)
            given[0].clear()
            del given[1:]
            for kept in (table, made):
                self.assertEqual((kept.size, len(kept), kept.rounds(), kept.row_of(size - 1), repr(kept)),
                                 (size, size - 1, rounds, row, told))
        for size in (4, 24, 10 ** 60, None, True, "4"):
            error = NotRight(size)
            self.assertIs(error.size, size)
            error.size = 6
            self.assertEqual(error.size, 6)

    def test_sizes_and_lengths(self):
        random = Random(41)
        for size in range(4, 26, 2):
            for many in (1, 2, 7, 59, 60):
                rounds = random_rounds(random, size, many)
                table = Table(rounds)
                self.assertEqual((table.size, len(table)), (size, many))
                self.assertEqual(table.rounds(), [sorted(meetings) for meetings in rounds])

    def test_no_list(self):
        for rounds in (None, True, 0, "", "h", b"", {}, {0: DAY}, KNOWN, [], (), Table([DAY])):
            self.refused(InvalidRounds, None, Table, rounds)

    def test_first_wrong_round(self):
        for wrong in NO_ROUNDS:
            self.refused(InvalidRounds, 0, Table, [wrong])
            self.refused(InvalidRounds, 0, Table, (wrong, DAY))
            self.refused(InvalidRounds, 0, Table, [wrong, wrong])
            self.refused(InvalidRounds, 1, Table, [DAY, wrong])
            self.refused(InvalidRounds, 2, Table, (DAY, DAY, wrong, DAY, wrong))

    def test_another_size(self):
        self.assertEqual((Table([DAY]).size, Table([WIDE, WIDE]).size), (4, 6))
        self.refused(InvalidRounds, 1, Table, [DAY, WIDE])
        self.refused(InvalidRounds, 1, Table, [WIDE, DAY, WIDE])
        self.refused(InvalidRounds, 2, Table, [WIDE, WIDE, DAY, None])

    def test_sixty_rounds(self):
        self.assertEqual(len(Table([DAY] * 60)), 60)
        self.too_many("rounds", 60, Table, [DAY] * 61)
        self.too_many("rounds", 60, Table, tuple([WIDE] * 1000))
        self.refused(InvalidRounds, 60, Table, [DAY] * 60 + [WIDE])
        self.refused(InvalidRounds, 70, Table, [DAY] * 70 + [None] * 9)
        self.refused(InvalidRounds, 0, Table, [None] * 61)

    def test_equal(self):
        table = Table([DAY, [(0, 1), (2, 3)]])
        self.assertIs(table == Table(([(1, 2), (0, 3)], ((2, 3), (0, 1)))), True)
        self.assertIs(table != Table([DAY, [(0, 1), (2, 3)]]), False)
        for other in (Table([DAY]), Table([[(0, 1), (2, 3)], DAY]), Table([DAY, [(0, 1), (3, 2)]]),
                      Table([WIDE]), table.rounds(), repr(table), None, 4, True, KNOWN):
            self.assertIs(table == other, False)
            self.assertIs(other == table, False)

    def test_repr(self):
        random = Random(42)
        for size in (4, 6, 24):
            rounds = random_rounds(random, size, 3)
            self.assertEqual(repr(Table(rounds)), f"Table({[sorted(meetings) for meetings in rounds]})")
            self.assertEqual(eval(repr(Table(rounds))), Table(rounds))


class TestAsked(Refusing, unittest.TestCase):
    def test_rows_and_meetings_of_pairs(self):
        random = Random(43)
        for size, many in ((4, 1), (4, 60), (6, 9), (10, 30), (24, 60)):
            rounds = random_rounds(random, size, many)
            table = Table(rounds)
            for one in range(size):
                self.assertEqual(table.row_of(one), row_by_hand(rounds, one))
                for other in range(size):
                    if one != other:
                        days = [day for day in range(many) if {(one, other), (other, one)} & set(rounds[day])]
                        self.assertEqual(table.met_in(one, other), days)
        self.assertEqual((table.row_of(team=3), table.met_in(other=1, one=2), table.meetings(day=2)),
                         (table.row_of(3), table.met_in(1, 2), sorted(rounds[2])))

    def test_wrong_days(self):
        table = Table([DAY, DAY, DAY])
        for day in NO_INTEGERS + [3, 4, -1, -3, 10 ** 60]:
            self.refused(InvalidRound, day, table.meetings, day)
        self.refused(InvalidRound, 1, Table([DAY]).meetings, 1)
        self.refused(InvalidRound, 60, Table([WIDE] * 60).meetings, 60)
        self.assertEqual(Table([WIDE] * 60).meetings(59), sorted(WIDE))

    def test_wrong_teams(self):
        for table, teams in ((Table([DAY]), 4), (Table([WIDE]), 6)):
            for team in no_teams(teams):
                self.refused(InvalidTeam, team, table.row_of, team)
                self.refused(InvalidTeam, team, table.met_in, team, 0)
                self.refused(InvalidTeam, team, table.met_in, team, team)
                self.refused(InvalidTeam, team, table.met_in, team, "x")
                self.refused(InvalidTeam, team, table.met_in, 1, team)
            for team in range(teams):
                self.refused(InvalidTeam, team, table.met_in, team, team)


class TestTurned(Refusing, unittest.TestCase):
    def test_at_once_and_wherever_they_stand(self):
        table = Table([[(0, 1), (2, 3)], [(1, 0), (2, 3)], [(0, 1), (3, 2)], [(0, 2), (1, 3)]])
        told = repr(table)
        self.assertEqual(table.with_turned([(0, 1)]).rounds(),
                         [[(1, 0), (2, 3)], [(1, 0), (2, 3)], [(1, 0), (3, 2)], [(0, 2), (1, 3)]])
        self.assertEqual(table.with_turned(((1, 0), (0, 1))).rounds(),
                         [[(1, 0), (2, 3)], [(0, 1), (2, 3)], [(1, 0), (3, 2)], [(0, 2), (1, 3)]])
        self.assertEqual(table.with_turned([(2, 3), (0, 2)]).rounds(),
                         [[(0, 1), (3, 2)], [(1, 0), (3, 2)], [(0, 1), (3, 2)], [(1, 3), (2, 0)]])
        self.assertEqual(table.with_turned([]), table)
        self.assertEqual(table.with_turned(meetings=()), table)
        self.assertEqual(repr(table), told)

    def test_against_turning_by_hand(self):
        random = Random(44)
        for size, many in ((4, 3), (4, 60), (6, 20), (24, 60)):
            rounds = random_rounds(random, size, many)
            stand = sorted({meeting for meetings in rounds for meeting in meetings})
            for part in (1, 2, len(stand) // 2, len(stand)):
                told = random.sample(stand, part)
                table = Table(rounds).with_turned(told)
                self.assertEqual(table.rounds(), turned_by_hand(rounds, told))
                if not any((away, home) in stand for home, away in told):
                    self.assertEqual(table.with_turned([(away, home) for home, away in told]), Table(rounds))

    def test_refused(self):
        table = Table([[(0, 1), (2, 3)], [(1, 2), (0, 3)]])
        for meetings in (None, True, 0, "", "01", {}, {(0, 1): 1}, KNOWN, table):
            self.refused(InvalidFixed, None, table.with_turned, meetings)
        wrong = [None, True, 0, "01", b"01", [0, 1], [2, 3], (), (0,), (0, 1, 2), (1, 0), (0, 2), (0, 4), (0, 0),
                 (False, 1), (0, True), (False, True), ("0", "1"), (0, None), (0, [1]), ({}, 1), (-1, 0), (0, 10 ** 60),
                 KNOWN, ((0, 1), (2, 3))]
        for value in wrong:
            self.refused(InvalidFixed, 0, table.with_turned, [value])
            self.refused(InvalidFixed, 1, table.with_turned, ((0, 1), value, value))
            self.refused(InvalidFixed, 2, table.with_turned, [(0, 1), (2, 3), value, (0, 1)])
        self.refused(InvalidFixed, 1, table.with_turned, [(0, 1), (0, 1)])
        self.refused(InvalidFixed, 3, table.with_turned, [(0, 1), (2, 3), (0, 3), (2, 3), None])
        self.assertEqual(table.rounds(), [[(0, 1), (2, 3)], [(0, 3), (1, 2)]])


class TestOfRules(Refusing, unittest.TestCase):
    def test_against_writing_out(self):
        random = Random(45)
        sizes = []
        for _ in range(120):
            rule = random_rule(random)
            size = random.randrange(rule.least_size, 26, 2)
            table = table_of(rule, size)
            slow = league(rule, size)
            self.assertEqual(table.rounds(), slow.rounds(), (rule, size))
            self.assertEqual([table.row_of(team) for team in range(size)], [slow.row(team) for team in range(size)])
            sizes.append(size)
        self.assertIn(24, sizes)
        self.assertEqual(table_of(size=4, rule=KNOWN).rounds(), [[(1, 2), (3, 0)], [(1, 3), (2, 0)], [(0, 1), (3, 2)]])

    def test_sizes(self):
        for rule in (KNOWN, Rule(-3, Word("ha", "a", "h"), "even"), Rule(7, Word("hhhh", "a", "haha"), "odd", True)):
            for size in no_sizes(rule):
                self.refused(InvalidSize, size, table_of, rule, size)
            self.assertEqual(table_of(rule, 24).size, 24)
            for size in (26, 28, 10 ** 60):
                self.too_many("teams", 24, table_of, rule, size)
        self.assertEqual(len(table_of(KNOWN, 24)), 23)
        with self.assertRaises(TooMany):
            table_of(rule=KNOWN, size=26)


if __name__ == "__main__":
    unittest.main()
