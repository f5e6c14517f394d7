import unittest
from random import Random

from ringrows.boards import Board
from ringrows.errors import InvalidMarks, InvalidRound, InvalidRounds, InvalidSize, InvalidTeam
from ringrows.tables import Table, table_of
from tests.made import KNOWN, NO_INTEGERS, Refusing, no_teams
from tests.slow import contrary
from tests.test_tables import DAY, NO_ROUNDS, WIDE, random_rounds, row_by_hand

NO_MARKS = [None, True, 0, 1, "", "H", "A", "ha", "hh", "x", " h", b"h", ["h"], ("h",), [], {}, {"h": "a"}, KNOWN]


def sample_table():
    return Table([[(0, 1), (2, 3)], [(1, 2), (0, 3)], [(1, 0), (2, 3)]])


class BoardCase(Refusing, unittest.TestCase):
    def tell(self, board, at):
        return board[at]

    def put(self, board, at, mark):
        board[at] = mark

    def add(self, board, meetings):
        board += meetings

    def give(self, board, table):
        board.table = table


class TestMarks(BoardCase):
    def test_told(self):
        random = Random(51)
        for size, many in ((4, 1), (6, 11), (24, 60)):
            rounds = random_rounds(random, size, many)
            board = Board(Table(rounds))
            self.assertEqual(len(board), many)
            for team in range(size):
                self.assertEqual("".join(board[day, team] for day in range(many)), row_by_hand(rounds, team))
        self.assertEqual(Board(table=sample_table()).table, sample_table())

    def test_set(self):
        board = Board(sample_table())
        board[0, 0] = "h"
        self.assertEqual(board.table, sample_table())
        board[0, 0] = "a"
        self.assertEqual(board.table.rounds(), [[(1, 0), (2, 3)], [(0, 3), (1, 2)], [(1, 0), (2, 3)]])
        board[2, 3] = "h"
        self.assertEqual(board.table.rounds(), [[(1, 0), (2, 3)], [(0, 3), (1, 2)], [(1, 0), (3, 2)]])
        board[(2, 2)] = "h"
        board[0, 0] = "h"
        self.assertEqual(board.table, sample_table())

    def test_set_against_a_copy(self):
        random = Random(52)
        for size, many in ((4, 3), (10, 9), (24, 60)):
            board = Board(Table(random_rounds(random, size, many)))
            faced = {(day, team): other for day, meetings in enumerate(board.table.rounds())
                     for one, two in meetings for team, other in ((one, two), (two, one))}
            marks = {at: board[at] for at in faced}
            for _ in range(100):
                at = random.choice(sorted(faced))
                mark = random.choice("ha")
                board[at] = mark
                marks[at] = mark
                marks[at[0], faced[at]] = contrary(mark)
                self.assertEqual(board[at], mark)
            self.assertEqual({at: board[at] for at in faced}, marks)
            self.assertEqual(len(board), many)

    def test_no_tuple_of_two(self):
        board = Board(sample_table())
        for at in (None, True, 0, 1, 5, "", "00", b"00", [], [0, 1], [0], {}, {0: 1}, (), (0,), (0, 1, 2), (None,),
                   ((0, 1), 2, 3), KNOWN, slice(0, 1), slice(None)):
            self.refused(InvalidRound, at, self.tell, board, at)
            self.refused(InvalidRound, at, self.put, board, at, "h")
            self.refused(InvalidRound, at, self.put, board, at, None)
        self.assertEqual(board.table, sample_table())

    def test_round_then_team_then_mark(self):
        board = Board(sample_table())
        for day in NO_INTEGERS + [3, -1, -3, 10 ** 60, slice(0, 1)]:
            self.refused(InvalidRound, day, self.tell, board, (day, 0))
            self.refused(InvalidRound, day, self.tell, board, (day, None))
            self.refused(InvalidRound, day, self.put, board, (day, 4), "")
        for team in no_teams(4):
            self.refused(InvalidTeam, team, self.tell, board, (2, team))
            self.refused(InvalidTeam, team, self.put, board, (0, team), "a")
            self.refused(InvalidTeam, team, self.put, board, (0, team), None)
        for mark in NO_MARKS:
            self.refused(InvalidMarks, mark, self.put, board, (0, 0), mark)
            self.refused(InvalidMarks, mark, self.put, board, (2, 3), mark)
        self.assertEqual(board.table, sample_table())


class TestFurtherRounds(BoardCase):
    def test_the_board_itself(self):
        board = same = Board(sample_table())
        board += [(3, 0), (2, 1)]
        self.assertIs(board, same)
        board += ((0, 2), (3, 1))
        self.assertEqual(same.table.rounds(), sample_table().rounds() + [[(2, 1), (3, 0)], [(0, 2), (3, 1)]])
        self.assertEqual((len(same), same[4, 3], same[3, 0]), (5, "h", "a"))
        self.assertIsNone(same.take(sample_table()))

    def test_what_was_passed_is_copied(self):
        board = Board(sample_table())
        day = [(3, 0), (2, 1)]
        board += day
        self.assertEqual(day, [(3, 0), (2, 1)])
        day[0] = (0, 3)
        self.assertEqual(board.table.meetings(3), [(2, 1), (3, 0)])

    def test_refused(self):
        board = Board(sample_table())
        for wrong in NO_ROUNDS + [WIDE, [DAY], board.table, board, sample_table().rounds()]:
            self.refused(InvalidRounds, 3, self.add, board, wrong)
        board += DAY
        self.refused(InvalidRounds, 4, self.add, board, None)
        self.assertEqual(board.table.rounds(), sample_table().rounds() + [DAY])

    def test_sixty_rounds(self):
        board = Board(Table([DAY] * 58))
        board += DAY
        board += tuple(DAY)
        self.assertEqual(len(board), 60)
        for wrong in (None, [], WIDE, 7):
            self.refused(InvalidRounds, 60, self.add, board, wrong)
        self.too_many("rounds", 60, self.add, board, DAY)
        self.assertEqual(board.table, Table([DAY] * 60))


class TestTurn(BoardCase):
    def test_all_meetings(self):
        board = Board(sample_table())
        self.assertEqual(board.turn(0, 1), 2)
        self.assertEqual(board.table.rounds(), [[(1, 0), (2, 3)], [(0, 3), (1, 2)], [(0, 1), (2, 3)]])
        self.assertEqual(board.turn(one=3, other=2), 2)
        self.assertEqual(board.table.rounds(), [[(1, 0), (3, 2)], [(0, 3), (1, 2)], [(0, 1), (3, 2)]])
        self.assertEqual((board.turn(2, 1), board.turn(0, 2)), (1, 0))
        self.assertEqual(board.table.rounds(), [[(1, 0), (3, 2)], [(0, 3), (2, 1)], [(0, 1), (3, 2)]])
        self.assertEqual((board.turn(1, 0), board.turn(1, 2), board.turn(2, 3), board.turn(3, 1)), (2, 1, 2, 0))
        self.assertEqual(board.table, sample_table())

    def test_against_turning_by_hand(self):
        random = Random(53)
        for size, many in ((4, 60), (6, 30), (24, 40)):
            rounds = random_rounds(random, size, many)
            board = Board(Table(rounds))
            for _ in range(60):
                one, other = random.sample(range(size), 2)
                pair = {(one, other), (other, one)}
                times = sum(meeting in pair for meetings in rounds for meeting in meetings)
                rounds = [[meeting[::-1] if meeting in pair else meeting for meeting in meetings]
                          for meetings in rounds]
                self.assertEqual(board.turn(one, other), times)
            self.assertEqual(board.table, Table(rounds))

    def test_refused(self):
        board = Board(sample_table())
        for team in no_teams(4):
            self.refused(InvalidTeam, team, board.turn, team, 0)
            self.refused(InvalidTeam, team, board.turn, team, team)
            self.refused(InvalidTeam, team, board.turn, 0, team)
        for team in range(4):
            self.refused(InvalidTeam, team, board.turn, team, team)
        self.assertEqual(board.table, sample_table())


class TestTables(BoardCase):
    def test_set_and_take(self):
        other = Table([DAY] * 5)
        board = Board(sample_table())
        board.table = other
        self.assertEqual((board.table, len(board)), (other, 5))
        self.assertIsNone(board.take(sample_table()))
        self.assertEqual((board.table, len(board)), (sample_table(), 3))
        board.take(other=other)
        self.assertEqual(board.table, other)
        board.take(board.table)
        self.assertEqual(board.table, other)

    def test_another_size(self):
        board = Board(sample_table())
        for size in (6, 8, 24):
            other = table_of(KNOWN, size)
            self.refused(InvalidSize, size, self.give, board, other)
            self.refused(InvalidSize, size, board.take, other)
            self.refused(InvalidSize, 4, Board(other).take, sample_table())
            self.refused(InvalidSize, 4, self.give, Board(other), sample_table())
        self.assertEqual(board.table, sample_table())

    def test_no_table_changes(self):
        taken = sample_table()
        board = Board(taken)
        told = [board.table]
        board[0, 0] = "a"
        told.append(board.table)
        board += DAY
        told.append(board.table)
        board.turn(0, 3)
        told.append(board.table)
        board.take(taken)
        board[1, 1] = "a"
        board.turn(2, 3)
        first = sample_table().rounds()
        second = [[(1, 0), (2, 3)]] + first[1:]
        self.assertEqual([table.rounds() for table in told],
                         [first, second, second + [DAY],
                          [second[0], [(1, 2), (3, 0)], second[2], [(1, 2), (3, 0)]]])
        self.assertEqual(taken, sample_table())
        self.assertEqual(board.table.rounds(), [[(0, 1), (3, 2)], [(0, 3), (2, 1)], [(1, 0), (3, 2)]])

    def test_two_boards_with_one_table(self):
        taken = sample_table()
        one, other = Board(taken), Board(taken)
        one[0, 0] = "a"
        one += DAY
        self.assertEqual((other.table, len(other), other[0, 0]), (sample_table(), 3, "h"))
        other.turn(2, 3)
        self.assertEqual(one.table.rounds(), [[(1, 0), (2, 3)], [(0, 3), (1, 2)], [(1, 0), (2, 3)], DAY])
        one.table = other.table
        other[0, 0] = "a"
        self.assertEqual((one[0, 0], other[0, 0], taken), ("h", "a", sample_table()))

    def test_no_iteration(self):
        with self.assertRaises(TypeError):
            list(Board(sample_table()))


if __name__ == "__main__":
    unittest.main()
