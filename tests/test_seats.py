import unittest
from math import gcd
from random import Random

from ringrows.errors import InvalidRound, InvalidSize, InvalidTeam
from ringrows.rules import Rule
from ringrows.seats import first_wrong, is_always_right, is_right, mark_of, opponent, rounds_of, seat
from ringrows.words import Word
from tests.made import KNOWN, NO_INTEGERS, STEPS, Refusing, no_sizes, no_teams, random_rule
from tests.slow import STANDERS, League, contrary, league, stander_is_home

PLAIN = Word("", "h", "")


class TestSmall(unittest.TestCase):
    def check(self, rule, n):
        slow = league(rule, n)
        for r in range(n - 1):
            for x in range(n - 1):
                self.assertEqual(seat(rule, n, x, r), slow.seats[r][x], (rule, n, x, r))
            for x in range(n):
                self.assertEqual(opponent(rule, n, x, r), slow.faces[r][x], (rule, n, x, r))
                self.assertEqual(mark_of(rule, n, x, r), slow.marks[r][x], (rule, n, x, r))
        for x in range(n):
            for y in range(n):
                if x != y:
                    self.assertEqual(rounds_of(rule, n, x, y), slow.met(x, y), (rule, n, x, y))
        self.assertIs(is_right(rule, n), slow.is_right(), (rule, n))

    def test_each_step_stander_and_turned(self):
        for step in STEPS:
            for stander in STANDERS:
                for turned in (False, True):
                    for n in (4, 6, 8):
                        self.check(Rule(step, Word("", "hah", ""), stander, turned), n)

    def test_words_with_heads_and_tails(self):
        random = Random(31)
        for _ in range(120):
            rule = random_rule(random)
            self.check(rule, rule.least_size + 2 * random.randint(0, 4))
        for step in (3, -6, 5, 7, -7):
            self.check(Rule(step, Word("hhah", "aha", "haaa"), "odd", True), 22)
            self.check(Rule(step, Word("hh", "aaha", ""), "away"), 16)
            self.check(Rule(step, Word("", "h", "aha"), "even"), 10)

    def test_just_one_is_at_home(self):
        random = Random(32)
        for _ in range(60):
            rule = random_rule(random)
            n = rule.least_size + 2 * random.randint(0, 3)
            for r in range(n - 1):
                for x in range(n):
                    y = opponent(rule, n, x, r)
                    self.assertEqual(opponent(rule, n, y, r), x)
                    self.assertEqual(mark_of(rule, n, y, r), contrary(mark_of(rule, n, x, r)))

    def test_contrary_rules(self):
        random = Random(33)
        for _ in range(40):
            rule = random_rule(random)
            n = rule.least_size
            for r in range(n - 1):
                for x in range(n):
                    self.assertEqual(mark_of(rule.contrary(), n, x, r), contrary(mark_of(rule, n, x, r)))

    def test_by_names(self):
        self.assertEqual(seat(day=1, team=3, size=6, rule=KNOWN), 2)
        self.assertEqual(opponent(day=1, team=3, size=6, rule=KNOWN), 4)
        self.assertEqual(mark_of(day=1, team=3, size=6, rule=KNOWN), "a")
        self.assertEqual(rounds_of(other=4, one=3, size=6, rule=KNOWN), [1])
        self.assertIs(is_right(size=6, rule=KNOWN), True)
        self.assertIs(is_always_right(rule=KNOWN), True)
        self.assertIs(first_wrong(rule=KNOWN), None)


class TestRight(unittest.TestCase):
    def test_always(self):
        for step in STEPS:
            rule = Rule(step, PLAIN, "home")
            self.assertIs(is_always_right(rule), abs(step) in (1, 2, 4))
            self.assertIs(is_always_right(rule), all(is_right(rule, n) for n in range(4, 400, 2)))

    def test_first_wrong(self):
        for step in STEPS:
            for parts in (("", "h", ""), ("h", "h", "a"), ("ha", "a", "ha"), ("haha", "ha", "haha"), ("", "h", "hah")):
                rule = Rule(step, Word(*parts), "away", True)
                wrong = [n for n in range(rule.least_size, 60, 2)
                         if not League(step, parts, "away", True, n).is_right()] if abs(step) < 4 else [
                             n for n in range(rule.least_size, 60, 2) if gcd(step, n - 1) > 1]
                self.assertEqual(first_wrong(rule), min(wrong, default=None), rule)
        self.assertEqual([first_wrong(Rule(step, PLAIN, "odd")) for step in (3, 5, 6, 7, -3, -5, -6, -7)],
                         [4, 6, 4, 8] * 2)
        self.assertEqual(first_wrong(Rule(6, Word("hh", "a", ""), "home")), 10)
        self.assertEqual(first_wrong(Rule(7, Word("hh", "a", "hh"), "home")), 22)


class TestFar(unittest.TestCase):
    def sizes(self, step):
        # Of each of these one more, two more and so on, so that each common divisor of step and n - 1 is there.
        return [10 ** 60 - 2 * k for k in range(1, 9)] + [8 * 10 ** 58 + 2 * k for k in range(abs(step) + 2)]

    def test_seats_and_opponents(self):
        random = Random(34)
        for _ in range(60):
            rule = random_rule(random)
            for n in self.sizes(rule.step)[::3]:
                p = n // 2 - 1
                x, r = random.randrange(n - 1), random.randrange(n - 1)
                k = seat(rule, n, x, r)
                self.assertTrue(-p <= k <= p)
                self.assertEqual((x - rule.step * r - k) % (n - 1), 0)
                y = opponent(rule, n, x, r)
                self.assertEqual(y == n - 1, k == 0)
                if k != 0:
                    self.assertEqual(seat(rule, n, y, r), -k)
                self.assertEqual(opponent(rule, n, y, r), x)
                z = opponent(rule, n, n - 1, r)
                self.assertEqual((seat(rule, n, z, r), opponent(rule, n, z, r)), (0, n - 1))

    def test_marks(self):
        random = Random(35)
        for _ in range(80):
            rule = random_rule(random)
            n = random.choice(self.sizes(rule.step))
            p = n // 2 - 1
            r = random.randrange(n - 1)
            flip = rule.turned and r % 2 == 1
            for k in [1, 2, 3, 4, 5, 6, 7, 8, p - 5, p - 4, p - 3, p - 2, p - 1, p, random.randint(9, p - 6)]:
                head, middle, tail = rule.word.head, rule.word.middle, rule.word.tail
                if k <= len(head):
                    mark = head[k - 1]
                elif k > p - len(tail):
                    mark = tail[k - p - 1]
                else:
                    mark = middle[(k - len(head) - 1) % len(middle)]
                mark = contrary(mark) if flip else mark
                self.assertEqual(mark_of(rule, n, (rule.step * r + k) % (n - 1), r), mark)
                self.assertEqual(mark_of(rule, n, (rule.step * r - k) % (n - 1), r), contrary(mark))
            stands = "h" if stander_is_home(rule.stander, r) else "a"
            self.assertEqual(mark_of(rule, n, n - 1, r), stands)
            self.assertEqual(mark_of(rule, n, rule.step * r % (n - 1), r), contrary(stands))

    def test_rounds(self):
        random = Random(36)
        met = []
        for step in STEPS:
            rule = Rule(step, PLAIN, "home")
            for n in self.sizes(step):
                g = gcd(step, n - 1)
                self.assertIs(is_right(rule, n), g == 1)
                x, r = random.randrange(n - 1), random.randrange(n - 1)
                for one, other in ((x, opponent(rule, n, x, r)), (n - 1, opponent(rule, n, n - 1, r))):
                    rounds = rounds_of(rule, n, one, other)
                    self.assertEqual(rounds, rounds_of(rule, n, other, one))
                    self.assertEqual(rounds, sorted(set(rounds)))
                    self.assertEqual(len(rounds), g)
                    self.assertIn(r, rounds)
                    met.append(len(rounds))
                    for told in rounds:
                        self.assertTrue(0 <= told < n - 1)
                        self.assertEqual(opponent(rule, n, one, told), other)
                y = random.choice([y for y in (x + 1, x + 2, x + 3, x - 1, x - 2) if 0 <= y < n - 1])
                rounds = rounds_of(rule, n, x, y)
                self.assertEqual(len(rounds), g if (x + y) % g == 0 else 0)
                self.assertTrue(all(opponent(rule, n, x, told) == y for told in rounds))
        self.assertEqual(set(met), {1, 3, 5, 7})

    def test_no_limit(self):
        n = 10 ** 300
        self.assertEqual(seat(KNOWN, n, 5, 7), -2)
        self.assertEqual(rounds_of(KNOWN, n, 2, 4), [3])
        self.assertEqual(rounds_of(Rule(3, PLAIN, "home"), n, 0, n - 1), [0, (n - 1) // 3, 2 * (n - 1) // 3])


class TestRefused(Refusing, unittest.TestCase):
    def test_sizes(self):
        for rule in (KNOWN, Rule(-3, Word("ha", "a", "h"), "even"), Rule(7, Word("hhhh", "a", "haha"), "odd", True)):
            for size in no_sizes(rule):
                for call in (seat, opponent, mark_of):
                    self.refused(InvalidSize, size, call, rule, size, 0, 0)
                    self.refused(InvalidSize, size, call, rule, size, None, None)
                self.refused(InvalidSize, size, rounds_of, rule, size, 0, 1)
                self.refused(InvalidSize, size, rounds_of, rule, size, 0, 0)
                self.refused(InvalidSize, size, rounds_of, rule, size, "x", True)
                self.refused(InvalidSize, size, is_right, rule, size)

    def test_teams(self):
        for n in (4, 6, 10 ** 40):
            for team in no_teams(n):
                for call in (seat, opponent, mark_of):
                    for day in (0, n - 1, None):
                        self.refused(InvalidTeam, team, call, KNOWN, n, team, day)
                self.refused(InvalidTeam, team, rounds_of, KNOWN, n, team, 0)
                self.refused(InvalidTeam, team, rounds_of, KNOWN, n, team, False)
                self.refused(InvalidTeam, team, rounds_of, KNOWN, n, 0, team)
            for team in (0, 1, n - 1):
                self.refused(InvalidTeam, team, rounds_of, KNOWN, n, team, team)

    def test_standing_team_has_no_seat(self):
        for n in (4, 8, 10 ** 40):
            self.refused(InvalidTeam, n - 1, seat, KNOWN, n, n - 1, 0)
            self.refused(InvalidTeam, n - 1, seat, KNOWN, n, n - 1, None)
            self.assertEqual((opponent(KNOWN, n, n - 1, 0), mark_of(KNOWN, n, n - 1, 0)), (0, "h"))

    def test_days(self):
        for n in (4, 6, 10 ** 40):
            for day in NO_INTEGERS + [-1, n - 1, n, 10 ** 60]:
                for call in (seat, opponent, mark_of):
                    self.refused(InvalidRound, day, call, KNOWN, n, 0, day)
                for call in (opponent, mark_of):
                    self.refused(InvalidRound, day, call, KNOWN, n, n - 1, day)
            self.assertEqual(opponent(KNOWN, n, n - 1, n - 2), n - 2)


if __name__ == "__main__":
    unittest.main()
