import unittest
from random import Random

from ringrows.along import break_round, breaks_until, home_round, homes_until, stay_at
from ringrows.errors import InvalidCount, InvalidNumber, InvalidRound, InvalidSize, InvalidTeam
from ringrows.rules import Rule
from ringrows.seats import mark_of
from ringrows.words import Word
from tests.made import KNOWN, NO_INTEGERS, STEPS, Refusing, no_sizes, no_teams, random_rule
from tests.slow import STANDERS, contrary, league

LONG = Word("hhah", "aha", "haaa")
FAR = 10 ** 60


def homes_by_hand(row):
    return [r for r, mark in enumerate(row) if mark == "h"]


def breaks_by_hand(row):
    return [r for r in range(len(row) - 1) if row[r] == row[r + 1]]


def stay_by_hand(row, day):
    first = last = day
    while first > 0 and row[first - 1] == row[day]:
        first -= 1
    while last < len(row) - 1 and row[last + 1] == row[day]:
        last += 1
    return first, last


class TestSmall(unittest.TestCase):
    def check_row(self, rule, n, x, row):
        """Holds all that is told of a team against its row, at each round and each number."""
        homes, breaks = homes_by_hand(row), breaks_by_hand(row)
        for R in range(n):
            self.assertEqual(homes_until(rule, n, x, R), row[:R].count("h"), (rule, n, x, R))
            self.assertEqual(breaks_until(rule, n, x, R), len(breaks_by_hand(row[:R])), (rule, n, x, R))
        for number in range(1, n + 1):
            told = homes[number - 1] if number <= len(homes) else None
            self.assertEqual(home_round(rule, n, x, number), told, (rule, n, x, number))
            told = breaks[number - 1] if number <= len(breaks) else None
            self.assertEqual(break_round(rule, n, x, number), told, (rule, n, x, number))
        for day in range(n - 1):
            self.assertEqual(stay_at(rule, n, x, day), stay_by_hand(row, day), (rule, n, x, day))

    def check(self, rule, n, teams=None):
        slow = league(rule, n)
        for x in range(n) if teams is None else teams:
            self.check_row(rule, n, x, slow.row(x))

    def test_each_step_stander_and_turned(self):
        for step in STEPS:
            for stander in STANDERS:
                for turned in (False, True):
                    self.check(Rule(step, Word("", "hah", "a"), stander, turned), 10, [0, 1, 5, 8, 9])

    def test_all_teams_at_small_sizes(self):
        random = Random(301)
        for _ in range(30):
            rule = random_rule(random)
            self.check(rule, rule.least_size)
        for n in (4, 6, 8):
            for step in STEPS:
                self.check(Rule(step, Word("", "hhaa", ""), "even", step % 2 == 0), n)

    def test_long_heads_and_tails(self):
        random = Random(302)
        for step in (1, -1, 2, -3, 4, -5, 6, 7, -7):
            for parts in (("hhah", "aha", "haaa"), ("haaa", "h", "aahh"), ("", "hhaa", "ahha"), ("ahah", "haha", "")):
                rule = Rule(step, Word(*parts), random.choice(STANDERS), random.random() < 0.5)
                n = rule.least_size + 2 * random.randint(0, 8)
                self.check(rule, n, random.sample(range(n - 1), 3) + [n - 1])

    def test_common_divisors(self):
        for step, n in ((3, 10), (-3, 28), (5, 16), (-5, 26), (6, 22), (7, 8), (7, 36), (-7, 22), (6, 4), (7, 4)):
            for turned in (False, True):
                self.check(Rule(step, Word("", "hha", ""), "odd", turned), n, [0, 1, n // 2, n - 2, n - 1])

    def test_middle_sizes(self):
        random = Random(303)
        for _ in range(12):
            rule, n = random_rule(random), 2 * random.randint(60, 150)
            for x in (random.randrange(n - 1), n - 1):
                row = "".join(mark_of(rule, n, x, r) for r in range(n - 1))
                self.check_row(rule, n, x, row)

    def test_known(self):
        self.assertEqual(homes_until(rounds=5, team=3, size=6, rule=KNOWN), 3)
        self.assertEqual(breaks_until(rounds=5, team=3, size=6, rule=KNOWN), 1)
        self.assertEqual(home_round(number=2, team=3, size=6, rule=KNOWN), 2)
        self.assertEqual(break_round(number=1, team=3, size=6, rule=KNOWN), 2)
        self.assertEqual(stay_at(day=3, team=3, size=6, rule=KNOWN), (2, 3))
        # The home of the first round counts, the break from it to a round behind the first so many does not.
        self.assertEqual([breaks_until(KNOWN, 6, 3, R) for R in range(6)], [0, 0, 0, 0, 1, 1])
        self.assertEqual([homes_until(KNOWN, 6, 3, R) for R in range(6)], [0, 1, 1, 2, 3, 3])


class TestFar(unittest.TestCase):
    def check_near(self, rule, n, x, day):
        """Holds what is told near a round against the marks of the rounds there."""
        days = range(max(0, day - 9), min(n - 1, day + 10))
        marks = {r: mark_of(rule, n, x, r) for r in days}
        for r in days:
            told = homes_until(rule, n, x, r + 1)
            self.assertEqual(told - homes_until(rule, n, x, r), marks[r] == "h", (rule, n, x, r))
            if marks[r] == "h":
                self.assertEqual(home_round(rule, n, x, told), r)
            if r - 1 in marks:
                told = breaks_until(rule, n, x, r + 1)
                self.assertEqual(told - breaks_until(rule, n, x, r), marks[r] == marks[r - 1], (rule, n, x, r))
                if marks[r] == marks[r - 1]:
                    self.assertEqual(break_round(rule, n, x, told), r - 1)
            self.check_stay(rule, n, x, r)

    def check_stay(self, rule, n, x, r):
        first, last = stay_at(rule, n, x, r)
        mark = mark_of(rule, n, x, r)
        self.assertTrue(0 <= first <= r <= last <= n - 2)
        for day in (first, last, (first + last) // 2, (first + r) // 2):
            self.assertEqual(mark_of(rule, n, x, day), mark)
        for day in (first - 1, last + 1):
            if 0 <= day <= n - 2:
                self.assertEqual(mark_of(rule, n, x, day), contrary(mark))
        self.assertEqual(breaks_until(rule, n, x, last + 1) - breaks_until(rule, n, x, first), last - first)

    def test_near_the_seat_0_and_near_the_ends(self):
        random = Random(304)
        for _ in range(20):
            rule = random_rule(random)
            n = FAR - 2 * random.randint(0, 10 ** 6)
            r = random.randrange(n - 1)
            for x in (rule.step * r % (n - 1), (rule.step * r + n // 2) % (n - 1)):
                self.check_near(rule, n, x, r)
            x = random.randrange(n)
            for day in (0, n - 2, random.randrange(n - 1)):
                self.check_near(rule, n, x, day)
            self.check_near(rule, n, n - 1, r)

    def test_no_round_and_all_of_them(self):
        random = Random(305)
        for _ in range(40):
            step = random.choice((-4, -2, -1, 1, 2, 4))
            rule = random_rule(random, [step])
            n = FAR - 2 * random.randint(0, 10 ** 6)
            for x in (0, random.randrange(n - 1), n - 2):
                self.assertEqual((homes_until(rule, n, x, 0), breaks_until(rule, n, x, 0)), (0, 0))
                self.assertEqual(breaks_until(rule, n, x, 1), 0)
                homes = homes_until(rule, n, x, n - 1)
                breaks = breaks_until(rule, n, x, n - 1)
                if not rule.turned:
                    # Each seat is seen once, and the seats k and -k have contrary marks.
                    zero = x * pow(rule.step, -1, n - 1) % (n - 1)
                    self.assertEqual(homes, n // 2 - 1 + (mark_of(rule, n, x, zero) == "h"))
                self.assertIsNotNone(home_round(rule, n, x, homes))
                self.assertIsNone(home_round(rule, n, x, homes + 1))
                self.assertIsNone(break_round(rule, n, x, breaks + 1))
                self.assertIsNone(break_round(rule, n, x, FAR))

    def test_one_against_the_other(self):
        random = Random(306)
        for _ in range(100):
            rule = random_rule(random)
            n = FAR - 2 * random.randint(0, 10 ** 6)
            x = random.choice([random.randrange(n - 1), random.randrange(n - 1), n - 1])
            number = random.randint(1, n // 3)
            day = home_round(rule, n, x, number)
            if day is not None:
                self.assertEqual(homes_until(rule, n, x, day), number - 1)
                self.assertEqual(homes_until(rule, n, x, day + 1), number)
            day = break_round(rule, n, x, number)
            if day is not None:
                self.assertEqual(breaks_until(rule, n, x, day + 1), number - 1)
                self.assertEqual(breaks_until(rule, n, x, day + 2), number)

    def test_stays_as_long_as_a_side(self):
        n = FAR
        p = n // 2 - 1
        for step in (1, -1):
            rule = Rule(step, Word("", "h", ""), "home")
            # From the seat 0, where it is away, the team goes along the one side, then along the other one.
            first = contrary(mark_of(rule, n, 0, 1))
            self.assertEqual(first, "h" if step == 1 else "a")
            stays = [(0, p), (p + 1, n - 2)] if step == 1 else [(0, 0), (1, p), (p + 1, n - 2)]
            for stay in stays:
                for day in (stay[0], (stay[0] + stay[1]) // 2, stay[1]):
                    self.assertEqual(stay_at(rule, n, 0, day), stay)
            self.assertEqual(breaks_until(rule, n, 0, n - 1), n - 1 - len(stays))
            self.assertEqual(homes_until(rule, n, 0, n - 1), p)
        self.assertEqual(stay_at(Rule(1, Word("", "h", ""), "even"), n, 0, 5), (0, p))
        self.assertEqual(stay_at(Rule(1, LONG, "away"), n, n - 1, 17), (0, n - 2))
        self.assertEqual(stay_at(Rule(1, LONG, "odd"), n, n - 1, 17), (17, 17))

    def test_the_standing_team(self):
        n = FAR
        for stander, homes, breaks in (("home", n - 1, n - 2), ("away", 0, n - 2), ("even", n // 2, 0),
                                       ("odd", n // 2 - 1, 0)):
            rule = Rule(-5, LONG, stander, True)
            self.assertEqual(homes_until(rule, n, n - 1, n - 1), homes)
            self.assertEqual(breaks_until(rule, n, n - 1, n - 1), breaks)
            self.assertEqual(home_round(rule, n, n - 1, homes + 1), None)
            self.assertEqual(break_round(rule, n, n - 1, breaks + 1), None)
            self.assertEqual(break_round(rule, n, n - 1, 7), 6 if breaks else None)
            told = {"home": 6, "away": None, "even": 12, "odd": 13}[stander]
            self.assertEqual(home_round(rule, n, n - 1, 7), told)


class TestRefused(Refusing, unittest.TestCase):
    CALLS = [(homes_until, InvalidCount), (breaks_until, InvalidCount), (home_round, InvalidNumber),
             (break_round, InvalidNumber), (stay_at, InvalidRound)]

    def test_sizes_and_teams(self):
        for call, _ in self.CALLS:
            for rule in (KNOWN, Rule(-3, LONG, "even", True)):
                for size in no_sizes(rule):
                    self.refused(InvalidSize, size, call, rule, size, None, None)
                for n in (rule.least_size, FAR):
                    for team in no_teams(n):
                        self.refused(InvalidTeam, team, call, rule, n, team, None)
                        self.refused(InvalidTeam, team, call, rule, n, team, 1)

    def test_rounds_and_numbers(self):
        for n in (4, 6, FAR):
            for team in (0, n - 2, n - 1):
                for call, kind in self.CALLS:
                    wrong = {InvalidCount: [-1, n, n + 1], InvalidNumber: [0, -1, -n], InvalidRound: [-1, n - 1, n]}
                    for value in NO_INTEGERS + wrong[kind] + [-FAR]:
                        self.refused(kind, value, call, KNOWN, n, team, value)
                self.assertEqual(homes_until(KNOWN, n, team, n - 1) + homes_until(KNOWN.contrary(), n, team, n - 1),
                                 n - 1)
                self.assertEqual(stay_at(KNOWN, n, team, n - 2)[1], n - 2)


if __name__ == "__main__":
    unittest.main()
