import unittest
from itertools import combinations
from random import Random

from ringrows.errors import InvalidLot, InvalidRows
from ringrows.lots import is_lacking, lacking_lot, room
from ringrows.tables import table_of
from tests.made import KNOWN, NO_INTEGERS, Refusing, random_rule

FOUR = ["haa", "haa", "ahh", "ahh"]
NO_ROW = [
    None, True, 0, 3, "", "x", "haA", "ha ", "hah ", " ha", "h a", "h|a", b"haa", ["h", "a", "a"], ("h", "a", "a"),
    [], {}, KNOWN, "h" * 31, "ha" * 200,
]


def random_rows(random):
    teams, rounds = random.randint(2, 8), random.randint(1, 12)
    return ["".join(random.choice("ha") for _ in range(rounds)) for _ in range(teams)]


def room_by_hand(rows, lot):
    total = 0
    for r in range(len(rows[0])):
        home = [x for x in lot if rows[x][r] == "h"]
        away = [x for x in lot if rows[x][r] == "a"]
        total += min(len(home), len(away))
    return total


def pairs(lot):
    return len(list(combinations(lot, 2)))


def lots(teams):
    """All lots, those with the fewest teams first, then the least ones."""
    return [lot for many in range(2, teams + 1) for lot in combinations(range(teams), many)]


def lacking_by_hand(rows):
    lacking = [lot for lot in lots(len(rows)) if room_by_hand(rows, lot) < pairs(lot)]
    return lacking[0] if lacking else None


class TestLots(unittest.TestCase):
    def test_against_the_definition(self):
        random = Random(401)
        for _ in range(60):
            rows = random_rows(random)
            for lot in lots(len(rows)):
                self.assertEqual(room(rows, lot), room_by_hand(rows, lot))
                self.assertIs(is_lacking(rows, lot), room_by_hand(rows, lot) < pairs(lot))
            self.assertEqual(lacking_lot(rows), lacking_by_hand(rows))
            self.assertEqual(room(tuple(rows), (0, 1)), room(rows, (0, 1)))

    def test_the_first_one_that_lacks(self):
        random = Random(402)
        found = {}
        for _ in range(400):
            teams = random.choice((4, 5, 6, 7))
            rounds = random.randint(teams, 11)
            rows = ["".join(random.choice("ha") for _ in range(rounds)) for _ in range(teams)]
            told = lacking_lot(rows)
            self.assertEqual(told, lacking_by_hand(rows))
            found.setdefault(None if told is None else len(told), set()).add(told)
        self.assertTrue({None, 2, 3} <= set(found))
        self.assertGreater(len(found[2]), 3)
        self.assertGreater(len(found[3]), 3)

    def test_leagues_of_rules(self):
        random = Random(403)
        for _ in range(25):
            rule = random_rule(random, [1, -1, 2, -2, 4, -4])
            for size in (rule.least_size, rule.least_size + 2):
                if size <= 10:
                    table = table_of(rule, size)
                    # All teams meet each other by these rows.
                    self.assertIsNone(lacking_lot([table.row_of(team) for team in range(size)]))

    def test_limits(self):
        self.assertIsNone(lacking_lot(["h", "a"]))
        self.assertEqual(lacking_lot(["h", "h"]), (0, 1))
        self.assertEqual(lacking_lot(["ha" * 15] * 12), (0, 1))
        table = table_of(KNOWN, 12)
        rows = [table.row_of(team) for team in range(12)]
        self.assertIsNone(lacking_lot(rows))
        self.assertEqual((room(rows, tuple(range(12))), is_lacking(rows, tuple(range(12)))), (66, False))
        last = ["h" * 30] + ["ha" * 15] * 11
        self.assertEqual(lacking_lot(last), (1, 2))
        # No lot of fewer than five teams lacks, and of those with five not the least one.
        late = ["ahhhhhh", "hhaaahh", "ahahaah", "aahhaha", "hhhhhhh", "hhahhah"]
        self.assertEqual((lacking_lot(late), lacking_by_hand(late)), ((0, 1, 2, 4, 5), (0, 1, 2, 4, 5)))

    def test_by_names(self):
        self.assertEqual((room(lot=(0, 2), rows=FOUR), is_lacking(lot=(0, 1), rows=FOUR), lacking_lot(rows=FOUR)),
                         (3, True, (0, 1)))
        self.assertEqual((is_lacking(FOUR, (0, 2)), is_lacking(FOUR, (0, 1, 2, 3))), (False, False))


class TestRefused(Refusing, unittest.TestCase):
    def calls(self, rows):
        return [(room, rows, None), (is_lacking, rows, None), (room, rows, (0, 1)), (lacking_lot, rows)]

    def test_no_list_of_two_to_twelve(self):
        for rows in (None, True, 0, "", "ha", b"", {}, {0: "h", 1: "a"}, KNOWN, [], (), ["h"], ("haa",), [None],
                     ["ha"] * 13, [None] * 13, ["ha"] * 1000):
            for call, *told in self.calls(rows):
                self.refused(InvalidRows, None, call, *told)

    def test_first_wrong_row(self):
        for wrong in NO_ROW:
            for rows, position in (([wrong, "haa"], 0), ([wrong] * 12, 0), (["haa", wrong], 1),
                                   (("haa", "aah", wrong), 2),
                                   (["haa"] * 11 + [wrong], 11), (["haa", "aah", wrong, "h", None], 2)):
                for call, *told in self.calls(rows):
                    self.refused(InvalidRows, position, call, *told)
        for rows, position in ((["haa", "haaa"], 1), (["haa", "ha"], 1), (["h" * 30, "h" * 30, "a" * 29], 2),
                               (["ha", "ah", "aa", "h", "aaa"], 3), (["h" * 31, "h" * 31], 0)):
            for call, *told in self.calls(rows):
                self.refused(InvalidRows, position, call, *told)

    def test_lots(self):
        for call in (room, is_lacking):
            for lot in (None, True, 0, "01", b"01", [0, 1], [], (), (0,), (None,), (9,), {}, {0: 1}, KNOWN):
                self.refused(InvalidLot, None, call, FOUR, lot)
            for team in NO_INTEGERS + [-1, 4, 5, 10 ** 60]:
                self.refused(InvalidLot, 0, call, FOUR, (team, 1))
                self.refused(InvalidLot, 1, call, FOUR, (0, team, None))
                self.refused(InvalidLot, 3, call, FOUR, (0, 1, 2, team))
            for lot, position in (((0, 0), 1), ((1, 0), 1), ((0, 1, 1), 2), ((0, 2, 1, 9), 2), ((0, 1, 2, 3, 3), 4),
                                  ((0, 1, 2, 3, 4), 4), ((3, 2, 1), 1), ((2, 3, 0, 1), 2)):
                self.refused(InvalidLot, position, call, FOUR, lot)
            self.assertIsNotNone(call(FOUR, (0, 1, 2, 3)))

    def test_what_is_passed_stays(self):
        rows = list(FOUR)
        lacking_lot(rows)
        room(rows, (0, 3))
        self.assertEqual(rows, FOUR)


if __name__ == "__main__":
    unittest.main()
