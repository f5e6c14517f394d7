import unittest
from random import Random

from ringrows.errors import InvalidCount, InvalidLegs, InvalidSize, InvalidTeam
from ringrows.rules import Rule
from ringrows.seasons import (border_breaks, pair_homes, repeats, season_breaks, season_form, season_rounds,
                              season_row)
from ringrows.words import Word
from tests.made import KNOWN, NO_INTEGERS, STEPS, Refusing, no_sizes, no_teams, random_rule
from tests.slow import breaks_of, league, reduced_parts, season_days, season_rows, told_on

ONE = [(0, 1, False)]
TWO = [(0, 1, False), (0, 1, True)]
LONG = Word("hhah", "aha", "haaa")
ALL_LEGS = [(begin, way, exchanged) for begin in range(4) for way in (1, -1) for exchanged in (False, True)]
ALONE = [None, True, 0, 1, "", "legs", b"", {}, {0: ONE[0]}, KNOWN, [], ()]
NO_LEGS = [
    None, True, 0, "01f", b"01", [], [0, 1, False], (), (0,), (0, 1), (0, 1, False, False), KNOWN, ((0, 1, True),),
    (-1, 1, False), (4, 1, False), (10 ** 60, 1, False), (True, 1, False), (False, 1, False), (None, 1, False),
    ("0", 1, False), ([0], 1, False), (0, 0, False), (0, 2, False), (0, -2, False), (0, True, False),
    (0, None, False), (0, "1", False), (0, 10 ** 60, False), (0, [1], False), (0, 1, 0), (0, 1, 1), (0, 1, None),
    (0, 1, "False"), (0, 1, []),
]
# Sizes that no league has, whatever the rule.
NEVER_SIZES = NO_INTEGERS + [0, 1, 2, 3, 5, -4, -6, 10 ** 59 + 1, -10 ** 60, "4", KNOWN]


def random_legs(random, many=None):
    return [random.choice(ALL_LEGS) for _ in range(many or random.randint(1, 4))]


def far_sizes(rule):
    """The numbers of places, far on, that have each rest by the middle."""
    return [10 ** 59 + k for k in range(len(rule.word.middle))]


def breaks_told(rule, legs, place):
    """The breaks of a season at far more places, from three small sizes behind all that can differ."""
    period = len(rule.word.middle)
    begin = 2 * (5 * abs(rule.step) + 1) + len(rule.word.head + rule.word.tail)
    least = begin + (place - begin) % period
    near = [least, least + period, least + 2 * period]
    return told_on({at: sum(map(breaks_of, season_rows(rule, 2 * at + 2, legs))) for at in near}, place)


def borders_told(rule, legs, border, place):
    """The breaks at a border at far more places, likewise."""
    period = len(rule.word.middle)
    begin = 2 * (5 * abs(rule.step) + 1) + len(rule.word.head + rule.word.tail)
    least = begin + (place - begin) % period
    return told_on({at: border_by_hand(rule, 2 * at + 2, legs, border) for at in (least, least + period)}, place)


def border_by_hand(rule, n, legs, border):
    k = (border + 1) * (n - 1)
    return sum(row[k - 1] == row[k] for row in season_rows(rule, n, legs))


class TestRounds(Refusing, unittest.TestCase):
    def test_each_leg(self):
        for n in (4, 6, 8, 34):
            for leg in ALL_LEGS:
                self.assertEqual(season_rounds(n, [leg]), season_days(n, [leg])[0], (n, leg))
        self.assertEqual(season_rounds(6, [(1, -1, True)]), [1, 0, 4, 3, 2])
        self.assertEqual(season_rounds(legs=((3, 1, False),), size=4), [0, 1, 2])
        self.assertEqual(season_rounds(4, [(3, -1, False), (2, 1, False)]), [0, 2, 1, 2, 0, 1])

    def test_one_leg_behind_another(self):
        random = Random(201)
        for _ in range(100):
            n, legs = random.choice((4, 6, 10, 20)), random_legs(random)
            told = season_rounds(n, legs)
            self.assertIs(told.__class__, list)
            self.assertEqual(told, [day for days in season_days(n, legs) for day in days])
            self.assertEqual(season_rounds(n, tuple(legs)), told)
            told.clear()
            self.assertEqual(len(season_rounds(n, legs)), len(legs) * (n - 1))

    def test_a_thousand_rounds(self):
        for many, size in ((1, 1000), (2, 500), (3, 334), (4, 250)):
            self.assertEqual(len(season_rounds(size, ONE * many)), many * (size - 1))
            self.too_many("rounds", 1000, season_rounds, size + 2, ONE * many)
            self.too_many("rounds", 1000, season_rounds, 10 ** 60, ONE * many)
            self.assertEqual(len(season_row(KNOWN, size, ONE * many, 0)), many * (size - 1))
            self.too_many("rounds", 1000, season_row, KNOWN, size + 2, ONE * many, 0)
            self.too_many("rounds", 1000, season_row, KNOWN, 10 ** 60, ONE * many, 10 ** 60 - 1)

    def test_sizes(self):
        for size in NEVER_SIZES:
            for legs in (ONE, None, [None], ONE * 5):
                self.refused(InvalidSize, size, season_rounds, size, legs)
                self.refused(InvalidSize, size, repeats, size, legs)


class TestLegs(Refusing, unittest.TestCase):
    def calls(self, rule, legs):
        """The functions with legs, and what is passed with them; what is passed behind legs is not valid either."""
        return [(season_rounds, 10 ** 6, legs), (season_row, rule, 10 ** 6, legs, None),
                (season_breaks, rule, 10 ** 6, legs), (border_breaks, rule, 10 ** 6, legs, None),
                (season_form, rule, legs), (repeats, 10 ** 6, legs), (pair_homes, rule, 10 ** 6, legs, None, None)]

    def test_no_list(self):
        for legs in ALONE:
            for call, *told in self.calls(KNOWN, legs):
                self.refused(InvalidLegs, None, call, *told)

    def test_first_wrong_leg(self):
        for wrong in NO_LEGS:
            for legs, position in (([wrong], 0), ((wrong,) + tuple(ONE), 0), (ONE + [wrong], 1),
                                   (TWO + [wrong, wrong], 2), (TWO + TWO + [wrong], 4), (TWO * 3 + [wrong, None], 6)):
                for call, *told in self.calls(KNOWN, legs):
                    self.refused(InvalidLegs, position, call, *told)

    def test_five_legs(self):
        for legs in (ONE * 5, tuple(TWO * 3), ALL_LEGS, ONE * 1000):
            for call, *told in self.calls(KNOWN, legs):
                self.too_many("legs", 4, call, *told)

    def test_what_is_passed_stays(self):
        legs = [(3, -1, True), (0, 1, False)]
        for call, *told in ((season_rounds, 6, legs), (season_row, KNOWN, 6, legs, 1), (season_breaks, KNOWN, 6, legs),
                            (border_breaks, KNOWN, 6, legs, 0), (season_form, KNOWN, legs), (repeats, 6, legs),
                            (pair_homes, KNOWN, 6, legs, 0, 1)):
            call(*told)
            self.assertEqual(legs, [(3, -1, True), (0, 1, False)])


class TestRows(Refusing, unittest.TestCase):
    def check(self, rule, n, legs):
        rows = season_rows(rule, n, legs)
        self.assertEqual([season_row(rule, n, legs, x) for x in range(n)], rows, (rule, n, legs))
        self.assertEqual(season_breaks(rule, n, legs), sum(map(breaks_of, rows)), (rule, n, legs))
        for border in range(len(legs) - 1):
            self.assertEqual(border_breaks(rule, n, legs, border), border_by_hand(rule, n, legs, border),
                             (rule, n, legs, border))

    def test_each_leg(self):
        for turned in (False, True):
            for stander in ("home", "even", "odd"):
                rule = Rule(-2, Word("h", "haa", ""), stander, turned)
                for leg in ALL_LEGS:
                    for n in (4, 6, 8):
                        self.check(rule, n, [leg])
                        self.check(rule, n, [leg, (0, 1, False)])

    def test_each_two_legs(self):
        rule = Rule(3, Word("", "hha", "a"), "away", True)
        for leg in ALL_LEGS:
            for behind in ALL_LEGS:
                self.check(rule, 6, [leg, behind])
                self.check(rule, 4, [leg, behind])

    def test_random_seasons(self):
        random = Random(202)
        for _ in range(250):
            rule = random_rule(random)
            self.check(rule, rule.least_size + 2 * random.randint(0, 5), random_legs(random))
        for step in STEPS:
            rule = Rule(step, Word("ah", "ha", "h"), "odd", True)
            self.check(rule, 18, [(3, -1, False), (1, 1, True), (2, -1, True)])

    def test_known(self):
        self.assertEqual(season_row(KNOWN, 4, TWO, 0), "aahhha")
        self.assertEqual((season_breaks(KNOWN, 4, TWO), season_breaks(rule=KNOWN, size=4, legs=ONE)), (6, 2))
        self.assertEqual(season_row(team=3, legs=[(1, 1, False)], size=4, rule=KNOWN), "ahh")
        # Where the first leg's last round is told again, exchanged, no team has a break; else all have.
        self.assertEqual(border_breaks(KNOWN, 8, [(1, 1, False), (0, 1, True)], border=0), 0)
        self.assertEqual(border_breaks(KNOWN, 8, [(1, 1, False), (0, 1, False)], 0), 8)
        # From the round 6 to the round 0 the team with the seat -1 alone has the same mark in the ring, as the
        # standing one has; those with contrary marks have a break if one of both legs is exchanged.
        self.assertEqual(border_breaks(KNOWN, 8, [(0, 1, False), (0, 1, False)], 0), 2)
        self.assertEqual(border_breaks(KNOWN, 8, [(0, 1, False), (0, 1, True)], 0), 6)

    def test_errors_in_the_sequence_of_the_parameters(self):
        for rule in (KNOWN, Rule(-3, LONG, "even", True)):
            n = rule.least_size
            for size in no_sizes(rule):
                self.refused(InvalidSize, size, season_row, rule, size, None, None)
                self.refused(InvalidSize, size, season_breaks, rule, size, None)
                self.refused(InvalidSize, size, border_breaks, rule, size, ONE * 5, None)
                self.refused(InvalidSize, size, pair_homes, rule, size, [None], None, None)
            for team in no_teams(n):
                self.refused(InvalidTeam, team, season_row, rule, n, ONE, team)
            for team in no_teams(2000):
                self.refused(InvalidTeam, team, season_row, rule, 2000, ONE, team)

    def test_borders(self):
        for legs in (ONE, TWO, TWO + ONE, TWO * 2):
            for border in NO_INTEGERS + [-1, len(legs) - 1, len(legs), 10 ** 60]:
                self.refused(InvalidCount, border, border_breaks, KNOWN, 4, legs, border)
                self.refused(InvalidCount, border, border_breaks, KNOWN, 10 ** 60, legs, border)
            for border in range(len(legs) - 1):
                self.assertIs(border_breaks(KNOWN, 4, legs, border).__class__, int)


class TestForms(unittest.TestCase):
    def check(self, rule, legs):
        form = season_form(rule, legs)
        self.assertEqual(form.first, rule.word.least)
        self.assertEqual(reduced_parts(form.first, form.early(), form.rows()), (form.early(), form.rows()))
        for places in range(form.first, form.first + 5):
            told = sum(map(breaks_of, season_rows(rule, 2 * places + 2, legs)))
            self.assertEqual(form(places), told, (rule, legs, places))
        for places in range(max(form.first, form.begin - 2), form.begin + 3):
            told = sum(map(breaks_of, season_rows(rule, 2 * places + 2, legs)))
            self.assertEqual(form(places), told, (rule, legs, places))
        for places in far_sizes(rule):
            told = breaks_told(rule, legs, places)
            self.assertEqual((form(places), season_breaks(rule, 2 * places + 2, legs)), (told, told))
        return form

    def test_random_seasons(self):
        random = Random(203)
        begins = []
        for _ in range(25):
            rule = random_rule(random, [-3, -2, -1, 1, 2])
            form = self.check(rule, random_legs(random))
            begins.append(form.begin - form.first)
        self.assertGreater(max(begins), 5)

    def test_great_steps(self):
        random = Random(204)
        for step in (-7, 7, 5):
            rule = Rule(step, Word(*random.choice([("hhah", "aha", "haaa"), ("", "hhaa", "a")])), "even", True)
            self.check(rule, [(3, -1, False), (3, 1, True), (0, -1, False), (2, 1, False)])

    def test_at_many_sizes(self):
        random = Random(205)
        for _ in range(60):
            rule, legs = random_rule(random), random_legs(random)
            form = season_form(rule, legs)
            for places in list(range(form.first, 110)) + far_sizes(rule):
                self.assertEqual(form(places), season_breaks(rule, 2 * places + 2, legs), (rule, legs, places))

    def test_one_leg_is_the_rule(self):
        self.assertEqual(repr(season_form(KNOWN, ONE)), "Form(1, [], [(0, 2, 0)])")
        self.assertEqual(repr(season_form(legs=[(0, 1, True)], rule=KNOWN)), "Form(1, [], [(0, 2, 0)])")

    def test_borders_at_sixty_digits(self):
        random = Random(206)
        for _ in range(12):
            rule, legs = random_rule(random, [-3, -1, 1, 2, 4]), random_legs(random, 3)
            for border in (0, 1):
                for places in far_sizes(rule):
                    self.assertEqual(border_breaks(rule, 2 * places + 2, legs, border),
                                     borders_told(rule, legs, border, places))


class TestRepeats(unittest.TestCase):
    def test_against_the_rounds(self):
        random = Random(207)
        found = []
        for _ in range(300):
            n, legs = random.choice((4, 4, 6, 8, 20)), random_legs(random)
            days = season_days(n, legs)
            told = [k for k in range(len(legs) - 1) if days[k][-1] == days[k + 1][0]]
            self.assertEqual(repeats(n, legs), told)
            found.append(len(told))
        self.assertEqual(set(found) & {0, 1, 2}, {0, 1, 2})

    def test_known(self):
        self.assertEqual(repeats(4, [(0, 1, False), (2, 1, True)]), [0])
        self.assertEqual(repeats(6, [(0, 1, False), (2, 1, True)]), [])
        self.assertEqual(repeats(4, [(0, 1, False), (2, -1, True), (0, 1, False)]), [0, 1])
        for n in (6, 10 ** 60, 10 ** 60 + 2):
            legs = [(1, 1, False), (0, -1, True), (1, -1, True), (2, 1, True)]
            self.assertEqual(repeats(size=n, legs=legs), [0, 1, 2])
            self.assertEqual(repeats(n, [(0, 1, False), (0, 1, False)]), [])
        self.assertEqual(repeats(10 ** 60, ONE), [])
        # The round 4 is the round 1 of three, and the last round is not the first one.
        self.assertEqual((repeats(4, [(3, -1, False), (1, 1, False)]), repeats(6, [(3, -1, False), (1, 1, False)])),
                         ([0], []))


class TestPairs(Refusing, unittest.TestCase):
    def slow(self, rule, n, legs, one, other):
        slow = league(rule, n)
        times = 0
        for days, (_, _, exchanged) in zip(season_days(n, legs), legs):
            for r in days:
                if slow.faces[r][one] == other and (slow.marks[r][one] == "h") != exchanged:
                    times += 1
        return times

    def test_against_going_through_all_rounds(self):
        random = Random(208)
        found = set()
        for _ in range(60):
            rule, legs = random_rule(random), random_legs(random)
            n = rule.least_size + 2 * random.randint(0, 4)
            for _ in range(12):
                one, other = random.sample(range(n), 2)
                told = pair_homes(rule, n, legs, one, other)
                self.assertEqual(told, self.slow(rule, n, legs, one, other), (rule, n, legs, one, other))
                found.add(told)
        self.assertGreater(len(found), 4)

    def test_wrong_rules(self):
        for step, n in ((3, 4), (-3, 10), (5, 6), (6, 16), (7, 8), (-7, 22)):
            for turned in (False, True):
                rule = Rule(step, Word("", "hha", ""), "odd", turned)
                legs = [(2, -1, False), (1, 1, True), (0, 1, True)]
                for one in range(n):
                    for other in (0, n // 2, n - 1):
                        if one != other:
                            self.assertEqual(pair_homes(rule, n, legs, one, other),
                                             self.slow(rule, n, legs, one, other))

    def test_at_sixty_digits(self):
        random = Random(209)
        for _ in range(150):
            # The numbers of rounds have the same rests by all steps and middles, and by two.
            rule, legs = random_rule(random), random_legs(random)
            small = 2 * random.randint(60, 200)
            great = small + 5040 * random.randint(10 ** 54, 10 ** 55)
            r, k, last = random.randint(0, 5), random.randint(-6, 6), random.random() < 0.2
            told = []
            for n in (small, great):
                one = (rule.step * r + k) % (n - 1)
                other = n - 1 if last or k == 0 else (rule.step * r - k) % (n - 1)
                told.append((pair_homes(rule, n, legs, one, other), pair_homes(rule, n, legs, other, one)))
            self.assertEqual(told[0], told[1], (rule, legs, small, great, r, k))

    def test_refused(self):
        for n in (4, 10 ** 60):
            for team in no_teams(n):
                self.refused(InvalidTeam, team, pair_homes, KNOWN, n, ONE, team, None)
                self.refused(InvalidTeam, team, pair_homes, KNOWN, n, ONE, 0, team)
            self.refused(InvalidTeam, 3, pair_homes, KNOWN, n, ONE, 3, 3)
        self.assertEqual(pair_homes(other=1, one=2, legs=TWO, size=4, rule=KNOWN), 1)


if __name__ == "__main__":
    unittest.main()
