import unittest
from random import Random

from ringrows.desk import Desk
from ringrows.errors import (CommandFailed, InvalidCommand, InvalidSize, NoRound, NotOpen, NothingToUndo, NotRight,
                             Unplayed)
from ringrows.rules import Rule
from ringrows.seats import is_right
from ringrows.words import Word
from tests.made import KNOWN, Refusing, no_sizes, random_rule
from tests.slow import league

# The rounds of the league of four: [[(1, 2), (3, 0)], [(1, 3), (2, 0)], [(0, 1), (3, 2)]].
FIRST = ["play 1 2 3 1", "play 3 0 0 0"]
ALL = FIRST + ["next", "play 1 3 0 2", "play 2 0 1 1", "next", "play 0 1 5 4", "play 3 2 0 1", "next"]
QUESTIONS = ["round", "waiting", "table", "points 0", "points 1", "points 2", "points 3"]

NO_COMMANDS = [
    None, True, False, 0, 1, b"round", [], ["round"], ("play", 1, 2, 0, 0), {}, KNOWN, "", " ", "\n", "-", "x", "do",
    "Round", "ROUND", " round", "round ", "round\n", "\nround", "rounds", "round round", "round 0", "round  ",
    "next 1", "next next", "next ", "undo 1", "undo undo", "waiting 0", "table 1", "table table", "points", "points ",
    "points  0", "points 0 ", " points 0", "points 0 1", "points 4", "points 10", "points -1", "points -0",
    "points +0", "points 00", "points 01", "points a", "points 0.0", "points\n0", "points 0\n", "points None", "play",
    "play 1 2", "play 1 2 3", "play 1 2 3 ", "play 1 2  1", "play 1 2 3 1 0", "play 1 2  3 1", "play  1 2 3 1",
    " play 1 2 3 1", "play 1 2 3 1 ",
    "play 1 2 3 1\n", "play 1-2 3-1", "play 1 1 0 0", "play 1 4 0 0", "play 4 1 0 0", "play 0 24 1 1",
    "play -1 2 0 0", "play 01 2 0 0", "play 1 02 0 0", "play 1 2 00 0", "play 1 2 0 00", "play 1 2 01 0",
    "play 1 2 -1 0", "play 1 2 0 -0", "play 1 2 +1 0", "play 1 2 1.5 0", "play 1 2 x 0", "play 1 2 0 1_0",
    "play 1 2 1e3 0", "Play 1 2 0 0", "put off", "put off 1", "put off 1 2 3", "put off 1 1", "put off 4 1",
    "put off 1 4", "put  off 1 2", "put off  1 2", "put off 1  2", "put off 1 2 ", "put off 01 2", "put 1 2",
    "put off1 2", "put-off 1 2", "putoff 1 2", "off 1 2", "put on 1 2", "put off -1 2", "put off 1-2", "put off\n1 2",
]


def desk_of_four(*commands):
    desk = Desk(KNOWN, 4)
    desk.do_all(*commands)
    return desk


def told(desk):
    """All that a desk tells."""
    asked = [desk.do(question) for question in QUESTIONS]
    return asked + [desk.open_round, desk.undoable, desk.results()]


class SlowDesk:
    """A desk that keeps all its states, one copy behind another."""

    def __init__(self, rounds, n):
        self.rounds, self.n = rounds, n
        self.states = [(0, {}, [])]

    def open_meetings(self):
        day, results, off = self.states[-1]
        rest = self.rounds[day] if day < len(self.rounds) else []
        return [pair for pair in rest if pair not in results and pair not in off]

    def waiting(self):
        _, results, off = self.states[-1]
        return sorted(pair for pair in off if pair not in results)

    def points(self, x):
        total = 0
        for (one, other), (a, b) in self.states[-1][1].items():
            if x in (one, other):
                own, against = (a, b) if x == one else (b, a)
                total += 3 if own > against else 1 if own == against else 0
        return total

    def goals(self, x, own):
        results = self.states[-1][1]
        return sum((a if (x == one) == own else b) for (one, other), (a, b) in results.items() if x in (one, other))

    def table(self):
        teams = list(range(self.n))
        # Sorted by the last key first: the sequence of the others stays.
        teams.sort(key=lambda x: self.goals(x, True), reverse=True)
        teams.sort(key=lambda x: self.goals(x, True) - self.goals(x, False), reverse=True)
        teams.sort(key=self.points, reverse=True)
        return teams

    def perform(self, command):
        """The answer, or the error."""
        day, results, off = self.states[-1]
        name, *numbers = command.split()
        if name == "round":
            return " ".join(f"{a}-{b}" for a, b in self.open_meetings()) or "-"
        if name == "waiting":
            return " ".join(f"{a}-{b}" for a, b in self.waiting()) or "-"
        if name == "points":
            return str(self.points(int(numbers[0])))
        if name == "table":
            return " ".join(map(str, self.table()))
        if name == "undo":
            if len(self.states) == 1:
                return (NothingToUndo,)
            self.states.pop()
            return "done"
        if name == "next":
            if day == len(self.rounds):
                return (NoRound,)
            if self.open_meetings():
                return (Unplayed, *self.open_meetings()[0])
            self.states.append((day + 1, results, off))
            return "done"
        if name == "play":
            pair, goals = tuple(map(int, numbers[:2])), tuple(map(int, numbers[2:]))
            if pair not in self.open_meetings() + self.waiting():
                return (NotOpen, *pair)
            self.states.append((day, {**results, pair: goals}, off))
            return "done"
        pair = tuple(map(int, numbers[1:]))
        if pair not in self.open_meetings():
            return (NotOpen, *pair)
        self.states.append((day, results, off + [pair]))
        return "done"


class DeskCase(Refusing, unittest.TestCase):
    def fails(self, kind, parts, call, *values):
        with self.assertRaises(kind) as caught:
            call(*values)
        self.assertIs(caught.exception.__class__, kind)
        self.assertEqual(tuple(vars(caught.exception).values()), tuple(parts))
        return caught.exception


class TestMade(DeskCase):
    def test_sizes(self):
        for rule in (KNOWN, Rule(-3, Word("ha", "a", "h"), "even"), Rule(6, Word("hhhh", "a", "haha"), "odd", True)):
            for size in no_sizes(rule):
                self.refused(InvalidSize, size, Desk, rule, size)

    def test_right_ahead_of_too_many(self):
        rule = Rule(3, Word("", "ha", ""), "even")
        for size in (4, 10, 16, 22, 28, 34, 10 ** 60):
            self.assertIs(is_right(rule, size), False)
            self.refused(NotRight, size, Desk, rule, size)
        for size in (26, 30, 10 ** 60 + 2):
            self.assertIs(is_right(rule, size), True)
            self.too_many("teams", 24, Desk, rule, size)
        for size in (26, 10 ** 60):
            self.too_many("teams", 24, Desk, KNOWN, size)
        self.assertEqual(Desk(rule=rule, size=24).open_round, 0)
        self.assertEqual(Desk(KNOWN, 24).undoable, 0)

    def test_at_first(self):
        desk = Desk(KNOWN, 4)
        self.assertEqual(told(desk), ["1-2 3-0", "-", "0 1 2 3", "0", "0", "0", "0", 0, 0, {}])


class TestCommands(DeskCase):
    def test_no_commands(self):
        for desk in (Desk(KNOWN, 4), desk_of_four(*ALL)):
            kept = told(desk)
            for value in NO_COMMANDS:
                self.refused(InvalidCommand, value, desk.do, value)
            self.assertEqual(told(desk), kept)

    def test_teams_up_to_the_size(self):
        for size in (4, 6, 10, 12, 24):
            desk = Desk(KNOWN, size)
            self.assertEqual(desk.do(command=f"points {size - 1}"), "0")
            for text in (f"points {size}", f"points {size + 1}", f"play 0 {size} 1 1", f"put off {size} 0"):
                self.refused(InvalidCommand, text, desk.do, text)

    def test_play(self):
        desk = Desk(KNOWN, 4)
        for home, away in ((2, 1), (0, 3), (0, 1), (1, 0), (1, 3), (2, 3)):
            self.fails(NotOpen, (home, away), desk.do, f"play {home} {away} 0 0")
        self.assertEqual(desk.do("play 3 0 0 17"), "done")
        self.fails(NotOpen, (3, 0), desk.do, "play 3 0 0 17")
        self.assertEqual((desk.do("round"), desk.do("points 0"), desk.do("points 3")), ("1-2", "3", "0"))
        goals = 10 ** 60 - 1
        self.assertEqual(desk.do(f"play 1 2 {goals} {goals}"), "done")
        self.assertEqual(desk.results(), {(1, 2): (goals, goals), (3, 0): (0, 17)})
        self.assertEqual((desk.do("round"), desk.do("table")), ("-", "0 1 2 3"))
        # The next round is not open yet.
        self.fails(NotOpen, (1, 3), desk.do, "play 1 3 0 0")

    def test_put_off(self):
        desk = Desk(KNOWN, 4)
        for home, away in ((0, 3), (2, 1), (1, 3), (0, 1)):
            self.fails(NotOpen, (home, away), desk.do, f"put off {home} {away}")
        self.assertEqual(desk.do_all("put off 3 0", "round", "waiting"), ["done", "1-2", "3-0"])
        self.fails(NotOpen, (3, 0), desk.do, "put off 3 0")
        # Put off, it can be played in its own round.
        self.assertEqual(desk.do_all("play 3 0 1 0", "waiting", "round"), ["done", "-", "1-2"])
        self.fails(NotOpen, (3, 0), desk.do, "play 3 0 1 0")
        self.fails(NotOpen, (3, 0), desk.do, "put off 3 0")
        self.assertEqual(desk.do_all("put off 1 2", "next", "round", "put off 2 0", "waiting"),
                         ["done", "done", "1-3 2-0", "done", "1-2 2-0"])
        self.fails(NotOpen, (1, 2), desk.do, "put off 1 2")
        self.assertEqual(desk.do_all("play 1 3 0 0", "next", "play 2 0 4 4", "waiting", "put off 3 2", "put off 0 1",
                                     "next",
                                     "waiting", "round", "play 0 1 1 0", "waiting", "play 1 2 2 2", "play 3 2 0 0",
                                     "waiting", "table"),
                         ["done", "done", "done", "1-2", "done", "done", "done", "0-1 1-2 3-2", "-", "done", "1-2 3-2",
                          "done", "done", "-", "3 0 2 1"])
        self.fails(NotOpen, (1, 2), desk.do, "play 1 2 2 2")

    def test_next(self):
        desk = Desk(KNOWN, 4)
        self.fails(Unplayed, (1, 2), desk.do, "next")
        desk.do("play 1 2 0 0")
        self.fails(Unplayed, (3, 0), desk.do, "next")
        desk.do("put off 3 0")
        self.assertEqual((desk.do("next"), desk.open_round), ("done", 1))
        # A meeting of an earlier round, or one that waits, does not keep the round from being closed.
        self.assertEqual(desk.do_all("put off 1 3", "put off 2 0", "next", "put off 0 1", "put off 3 2"), ["done"] * 5)
        self.assertEqual((desk.open_round, desk.do("next"), desk.open_round), (2, "done", None))
        self.fails(NoRound, (), desk.do, "next")
        self.assertEqual((desk.do("round"), desk.do("waiting")), ("-", "0-1 1-3 2-0 3-0 3-2"))
        self.fails(NotOpen, (1, 2), desk.do, "play 1 2 0 0")
        self.fails(NotOpen, (3, 2), desk.do, "put off 3 2")
        self.assertEqual(desk.do("play 3 2 1 1"), "done")

    def test_undo(self):
        desk = Desk(KNOWN, 4)
        self.fails(NothingToUndo, (), desk.do, "undo")
        kept = [told(desk)]
        commands = ["put off 1 2", "play 3 0 1 0", "next", "play 1 2 7 0", "put off 2 0", "put off 1 3", "next",
                    "play 0 1 1 1",
                    "play 2 0 0 3", "play 3 2 2 1", "next", "play 1 3 4 4"]
        for at, command in enumerate(commands, 1):
            self.assertEqual(desk.do(command), "done")
            kept.append(told(desk))
            self.assertEqual(desk.undoable, at)
        for at in range(len(commands), 0, -1):
            self.assertEqual(told(desk), kept[at])
            for question in QUESTIONS:
                desk.do(question)
            self.assertEqual((desk.do("undo"), desk.undoable), ("done", at - 1))
        self.assertEqual(told(desk), kept[0])
        self.fails(NothingToUndo, (), desk.do, "undo")
        # An undo is not taken back by another one.
        desk.do_all("play 1 2 0 0", "play 3 0 1 1", "undo", "play 3 0 2 2", "undo", "undo")
        self.assertEqual((told(desk), desk.undoable), (kept[0], 0))

    def test_points_and_the_table_with_ties(self):
        desk = desk_of_four(*ALL)
        self.assertEqual(desk.results(), {(0, 1): (5, 4), (1, 2): (3, 1), (1, 3): (0, 2), (2, 0): (1, 1),
                                          (3, 0): (0, 0),
                                          (3, 2): (0, 1)})
        self.assertEqual([desk.do(f"points {x}") for x in range(4)], ["5", "3", "4", "4"])
        # 2 and 3 have as many points; 3 has a goal more than against it, 2 has one less.
        self.assertEqual(desk.do("table"), "0 3 2 1")
        # As many points and goals less those against: who has more goals is ahead, then who has the least number.
        self.assertEqual(desk_of_four("play 1 2 2 0", "play 3 0 3 1").do("table"), "3 1 0 2")
        self.assertEqual(desk_of_four("play 1 2 2 2", "play 3 0 3 3").do("table"), "0 3 1 2")
        self.assertEqual(desk_of_four("play 1 2 2 2", "play 3 0 2 2").do("table"), "0 1 2 3")
        self.assertEqual(desk_of_four("play 1 2 0 9", "play 3 0 0 8").do("table"), "2 0 3 1")

    def test_sorted_by_numbers(self):
        desk = Desk(KNOWN, 24)
        rounds = league(KNOWN, 24).rounds()
        self.assertEqual(desk.do("round"), " ".join(f"{a}-{b}" for a, b in rounds[0]))
        for a, b in reversed(rounds[0]):
            desk.do(f"put off {a} {b}")
        self.assertEqual(desk.do("waiting"), " ".join(f"{a}-{b}" for a, b in rounds[0]))
        for a, b in reversed(rounds[0]):
            desk.do(f"play {a} {b} {a} {b}")
        self.assertEqual(list(desk.results()), rounds[0])


class TestAgainstCopies(DeskCase):
    def random_command(self, random, slow):
        pairs = slow.open_meetings() + slow.waiting()
        kinds = ["play"] * 6 + ["put off"] * 2 + ["next"] * 2 + ["undo"] + QUESTIONS
        kind = random.choice(kinds)
        if not slow.open_meetings() and random.random() < 0.4:
            kind = "next"
        if kind not in ("play", "put off"):
            return kind.replace("points 0", f"points {random.randrange(slow.n)}")
        pair = random.choice(pairs) if pairs and random.random() < 0.8 else random.sample(range(slow.n), 2)
        goals = f" {random.randint(0, 3)} {random.randint(0, 3)}" if kind == "play" else ""
        return f"{kind} {pair[0]} {pair[1]}{goals}"

    def test_random_commands(self):
        random = Random(621)
        errors = set()
        for _ in range(40):
            rule = random_rule(random, [-4, -2, -1, 1, 2, 4])
            n = max(rule.least_size, random.choice((4, 4, 6, 8)))
            desk, slow = Desk(rule, n), SlowDesk(league(rule, n).rounds(), n)
            for _ in range(200):
                command = self.random_command(random, slow)
                answer = slow.perform(command)
                if isinstance(answer, str):
                    self.assertEqual(desk.do(command), answer, command)
                else:
                    self.fails(answer[0], answer[1:], desk.do, command)
                    errors.add(answer[0])
                day, results, _ = slow.states[-1]
                self.assertEqual(desk.open_round, day if day < n - 1 else None)
                self.assertEqual(desk.undoable, len(slow.states) - 1)
                self.assertEqual(list(desk.results().items()), sorted(results.items()))
        self.assertEqual(errors, {NotOpen, Unplayed, NoRound, NothingToUndo})


class TestDoAll(DeskCase):
    def test_answers(self):
        desk = Desk(KNOWN, 4)
        self.assertEqual(desk.do_all(), [])
        answers = desk.do_all("round", *FIRST, "next", "undo", "points 1", "table")
        self.assertEqual(answers, ["1-2 3-0", "done", "done", "done", "done", "3", "1 0 3 2"])
        self.assertIs(answers.__class__, list)
        # Each command counts by itself for undo.
        self.assertEqual((desk.undoable, desk.do("undo"), desk.do("round")), (2, "done", "3-0"))

    def test_none_has_an_effect_if_one_fails(self):
        wrong = [("x", InvalidCommand, ("x",)), (None, InvalidCommand, (None,)), ("play 1 2 0 0", NotOpen, (1, 2)),
                 ("put off 0 1", NotOpen, (0, 1)), ("next", Unplayed, (2, 0))]
        for command, kind, parts in wrong:
            desk = desk_of_four(*FIRST)
            kept = told(desk)
            ahead = ["round", "next", "play 1 3 1 1", "table"]
            for many in (4, 3, 2):
                if command != "next" or many > 2:
                    error = self.fails(CommandFailed, (many,), desk.do_all, *ahead[:many], command, "round", "x")
                    self.assertIs(error.__cause__.__class__, kind)
                    self.assertEqual(tuple(vars(error.__cause__).values()), parts)
                self.assertEqual(told(desk), kept)
        desk = desk_of_four(*ALL)
        kept = told(desk)
        error = self.fails(CommandFailed, (2,), desk.do_all, "undo", "next", "next")
        self.assertIs(error.__cause__.__class__, NoRound)
        self.assertEqual(told(desk), kept)
        error = self.fails(CommandFailed, (9,), desk.do_all, *["undo"] * 20)
        self.assertIs(error.__cause__.__class__, NothingToUndo)
        self.assertEqual(told(desk), kept)
        error = self.fails(CommandFailed, (0,), desk.do_all, ["round"])
        self.assertEqual(error.__cause__.value, ["round"])
        self.assertEqual([desk.do("undo") for _ in ALL], ["done"] * len(ALL))


class TestTrials(DeskCase):
    def test_as_it_was(self):
        desk = desk_of_four(*FIRST)
        kept = told(desk)
        with desk.trial() as held:
            self.assertIs(held, desk)
            held.do_all("next", "play 1 3 0 0", "put off 2 0", "next")
            self.assertEqual((desk.open_round, desk.undoable), (2, 6))
        self.assertEqual(told(desk), kept)
        with desk.trial() as held:
            held.do_all("undo", "undo")
            self.fails(NothingToUndo, (), held.do, "undo")
        self.assertEqual(told(desk), kept)
        # What can be taken back is as it was, too.
        self.assertEqual((desk.do("undo"), desk.do("round")), ("done", "3-0"))

    def test_behind_an_error(self):
        desk = desk_of_four(*FIRST)
        kept = told(desk)
        for kind, command in ((InvalidCommand, "x"), (Unplayed, "next"), (NotOpen, "play 1 2 0 0")):
            with self.assertRaises(kind):
                with desk.trial() as held:
                    held.do("next")
                    held.do(command)
            self.assertEqual(told(desk), kept)
        with self.assertRaises(KeyError):
            with desk.trial():
                desk.do("undo")
                raise KeyError("x")
        self.assertEqual(told(desk), kept)

    def test_one_within_another(self):
        desk = Desk(KNOWN, 4)
        kept = [told(desk)]
        with desk.trial() as one:
            one.do(FIRST[0])
            kept.append(told(desk))
            with one.trial() as other:
                other.do(FIRST[1])
                kept.append(told(desk))
                with desk.trial():
                    desk.do_all("next", "undo", "undo", "undo")
                self.assertEqual(told(desk), kept[2])
            self.assertEqual(told(desk), kept[1])
            desk.do("undo")
        self.assertEqual(told(desk), kept[0])

    def test_a_trial_taken_twice(self):
        desk = Desk(KNOWN, 4)
        trial = desk.trial()
        desk.do(FIRST[0])
        for command in (FIRST[1], "put off 3 0", "undo"):
            # It is as it was when the context was entered, not when the trial was made.
            kept = told(desk)
            with trial as held:
                held.do(command)
            self.assertEqual(told(desk), kept)
            desk.do_all("undo", FIRST[0])
        desk.do(FIRST[1])
        kept = told(desk)
        with trial:
            desk.do("next")
        self.assertEqual(told(desk), kept)

    def test_tried(self):
        desk = desk_of_four(*FIRST)
        kept = told(desk)
        self.assertEqual(desk.tried(lambda held: held.do_all("next", "put off 1 3", "waiting")),
                         ["done", "done", "1-3"])
        self.assertEqual(told(desk), kept)
        self.assertIs(desk.tried(action=lambda held: held), desk)
        self.assertIsNone(desk.tried(lambda held: None))

        def within(held):
            held.do("next")
            inner = held.tried(lambda again: again.do_all("put off 1 3", "put off 2 0", "next") and again.open_round)
            return inner, held.open_round

        self.assertEqual((desk.tried(within), desk.open_round), ((2, 1), 0))
        with desk.trial():
            desk.do("undo")
            self.assertEqual(desk.tried(lambda held: held.do("undo") and held.undoable), 0)
            self.assertEqual(desk.undoable, 1)
        self.assertEqual(told(desk), kept)

    def test_tried_with_an_error(self):
        desk = desk_of_four(*FIRST)
        kept = told(desk)

        def failing(held):
            held.do_all("next", "put off 1 3")
            raise ZeroDivisionError("x")

        with self.assertRaises(ZeroDivisionError):
            desk.tried(failing)
        self.assertEqual(told(desk), kept)
        self.fails(CommandFailed, (1,), desk.tried, lambda held: held.do_all("next", "next"))
        self.assertEqual(told(desk), kept)


class TestResults(DeskCase):
    def test_sorted_and_new(self):
        desk = desk_of_four("play 3 0 1 2", "play 1 2 3 4", "next", "play 2 0 0 0")
        results = desk.results()
        self.assertEqual(list(results.items()), [((1, 2), (3, 4)), ((2, 0), (0, 0)), ((3, 0), (1, 2))])
        results.clear()
        self.assertEqual(len(desk.results()), 3)
        for key, value in desk.results().items():
            self.assertEqual((key.__class__, value.__class__), (tuple, tuple))

    def test_two_desks(self):
        one, other = Desk(KNOWN, 4), Desk(KNOWN, 4)
        one.do(FIRST[0])
        self.assertEqual((one.undoable, other.undoable, other.do("round")), (1, 0, "1-2 3-0"))

    def test_properties_are_read_only(self):
        desk = Desk(KNOWN, 4)
        for name in ("open_round", "undoable"):
            with self.assertRaises(AttributeError):
                setattr(desk, name, 1)

    def test_three_hundred_commands(self):
        desk = Desk(KNOWN, 24)
        rounds = league(KNOWN, 24).rounds()
        for meetings in rounds:
            for home, away in meetings:
                desk.do(f"play {home} {away} {home % 3} {away % 4}")
            desk.do("next")
        self.assertEqual((desk.undoable, len(desk.results()), desk.open_round), (299, 276, None))


if __name__ == "__main__":
    unittest.main()
