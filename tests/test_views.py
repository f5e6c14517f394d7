import inspect
import unittest
from itertools import islice
from random import Random

from ringrows import views
from ringrows.errors import InvalidRound, InvalidSize, InvalidTeam
from ringrows.forms import Form
from ringrows.pictures import Picture
from ringrows.rules import Rule
from ringrows.views import bound, form_of, is_seen, number_at, number_in
from ringrows.words import Word
from tests.made import KNOWN, NO_INTEGERS, STEPS, Refusing, no_sizes, no_teams, random_picture, random_rule
from tests.slow import STANDERS, league, reduced_parts, told_on, word_least

TWICE = Picture([(0, 0, "h"), (0, 1, "h")])
LONG = Word("hhah", "aha", "haaa")

# Pictures whose teams wrap round a small ring, the same team told twice, with one mark and with both.
WRAPPED = [
    Picture([(0, 0, "h"), (3, 0, "h"), (-3, 0, "h")]), Picture([(0, 0, "h"), (3, 0, "a")]),
    Picture([(-5, 0, "a"), (5, 0, "a")]), Picture([(-5, 0, "a"), (5, 1, "h"), (0, 3, "a")]),
    Picture([(2, 0, "h"), (-3, 0, "h"), (-5, 2, "a"), (5, 2, "a")]), Picture([(4, 3, "h"), (-4, 0, "a")]),
]


def width_by_hand(rule, picture):
    told = [d - rule.step * t for d, t, _ in picture.cells] + [0]
    return max(told) - min(told) + 1


def bound_by_hand(rule, picture):
    return 2 * width_by_hand(rule, picture) + len(rule.word.head + rule.word.tail)


def slow_number(rule, picture, places):
    return len(league(rule, 2 * places + 2).seen(picture.cells))


def told_far(rule, picture, begin, place):
    """The number at far more places, from the three least numbers of places from begin on with the same rest."""
    period = len(rule.word.middle)
    least = begin + (place - begin) % period
    return told_on({at: slow_number(rule, picture, at) for at in (least, least + period, least + 2 * period)}, place)


class TestSeen(unittest.TestCase):
    def check(self, rule, n, picture):
        slow = league(rule, n)
        seen = slow.seen(picture.cells)
        for r in range(n - 1):
            for x in range(n - 1):
                self.assertIs(is_seen(rule, n, picture, r, x), (r, x) in seen, (rule, n, picture, r, x))
            self.assertEqual(number_in(rule, n, picture, r), sum(told == r for told, _ in seen))
        self.assertEqual(number_at(rule, n, picture), len(seen), (rule, n, picture))

    def test_each_step_stander_and_turned(self):
        random = Random(81)
        for step in STEPS:
            for stander in STANDERS:
                for turned in (False, True):
                    rule = Rule(step, Word("", "hha", ""), stander, turned)
                    for n in (4, 6, 8):
                        self.check(rule, n, random_picture(random))

    def test_words_with_heads_and_tails(self):
        random = Random(82)
        for _ in range(80):
            rule = random_rule(random)
            self.check(rule, rule.least_size + 2 * random.randint(0, 4), random_picture(random))
            rule = Rule(random.choice(STEPS), LONG, random.choice(STANDERS), True)
            self.check(rule, 18, random_picture(random, 2, 1))

    def test_round_the_ring(self):
        random = Random(83)
        for picture in WRAPPED:
            for n in (4, 6, 8, 10, 12):
                for _ in range(4):
                    rule = Rule(random.choice(STEPS), Word("", random.choice(["h", "ha", "aah"]), ""),
                                random.choice(STANDERS), random.random() < 0.5)
                    self.check(rule, n, picture)

    def test_last_rounds(self):
        for later in range(4):
            picture = Picture([(0, 0, "h"), (0, later, "h")] if later else [(0, 0, "h")])
            for n in (4, 6, 10, 10 ** 40, 10 ** 40 + 2):
                for day in range(max(0, n - 2 - later - 3), n - 1):
                    told = number_in(KNOWN, n, picture, day)
                    seen = [x for x in range(min(n - 1, 200)) if is_seen(KNOWN, n, picture, day, x)]
                    if day > n - 2 - later:
                        self.assertEqual((told, seen), (0, []))
                    elif n < 100:
                        self.assertEqual(told, len(seen))
                    else:
                        self.assertEqual(told, number_in(KNOWN, n, picture, day % 2))
                if n > 4:
                    self.assertGreater(number_in(KNOWN, n, picture, 0) + number_in(KNOWN, n, picture, 1), 0)
        # Four teams have three rounds: there is no room for four.
        picture = Picture([(0, 0, "h"), (1, 3, "h")])
        self.assertEqual([number_in(KNOWN, 4, picture, day) for day in range(3)], [0, 0, 0])
        self.assertEqual(number_at(KNOWN, 4, picture), 0)

    def test_marks_of_teams_far(self):
        random = Random(84)
        for _ in range(40):
            rule = random_rule(random)
            picture = random_picture(random)
            n = 10 ** 60 + 2 * random.randint(0, 30)
            p = n // 2 - 1
            day = random.randrange(n - 10)
            # A seat near 0 or near the ends stands at a size of a few hundreds where it stands at the large one.
            small = n % 24 + 240
            q = small // 2 - 1
            slow = league(rule, small)
            base = day % 2
            for k in range(-60, 61):
                for far, near in ((k, k), (k + (p if k < 0 else -p), k + (q if k < 0 else -q))):
                    told = is_seen(rule, n, picture, day, (far + rule.step * day) % (n - 1))
                    self.assertIs(told, slow.is_seen(picture.cells, base, (near + rule.step * base) % (small - 1)))


class TestNumbersFar(unittest.TestCase):
    def test_at_sixty_digits(self):
        random = Random(85)
        for _ in range(12):
            rule = random_rule(random, [-2, -1, 1, 2])
            picture = random_picture(random, 2, 2)
            begin = bound_by_hand(rule, picture)
            for _ in range(2):
                place = 10 ** 60 - random.randint(1, 30)
                self.assertEqual(number_at(rule, 2 * place + 2, picture), told_far(rule, picture, begin, place))
        self.assertEqual(number_at(KNOWN, 10 ** 30, TWICE), 499999999999999999999999999999)

    def test_in_a_round_at_sixty_digits(self):
        random = Random(86)
        for _ in range(40):
            rule, picture = random_rule(random), random_picture(random)
            n = 10 ** 60 + 2 * random.randint(1, 30)
            even, odd = number_in(rule, n, picture, 0), number_in(rule, n, picture, 1)
            rounds = n - 1 - picture.span
            self.assertEqual(number_at(rule, n, picture), (rounds + 1) // 2 * even + rounds // 2 * odd)
            for day in (2, 3, 10 ** 59, 10 ** 59 + 1, n - 2 - picture.span):
                self.assertEqual(number_in(rule, n, picture, day), odd if day % 2 else even)
            self.assertTrue(0 <= even <= n - 1 and 0 <= odd <= n - 1)

    def test_no_limit(self):
        picture = Picture([(0, 0, "h")])
        for n in (10 ** 200, 10 ** 300 + 2):
            # Half of the teams of the ring at home, and one more where the standing team is away.
            rule = Rule(3, Word("hh", "aha", "a"), "odd")
            self.assertEqual([number_in(rule, n, picture, day) for day in (0, 1)], [n // 2, n // 2 - 1])
            self.assertEqual(number_at(rule, n, picture), n // 2 * (n // 2) + (n // 2 - 1) ** 2)


class TestBoundsAndForms(unittest.TestCase):
    def check_form(self, rule, picture, places):
        form = form_of(rule, picture)
        first = word_least(rule.word.head, rule.word.middle, rule.word.tail)
        self.assertEqual(form.first, first)
        self.assertEqual(reduced_parts(form.first, form.early(), form.rows()), (form.early(), form.rows()))
        self.assertLessEqual(form.begin, bound(rule, picture))
        self.assertEqual(len(rule.word.middle) % form.period, 0)
        for place in places:
            if place >= first:
                self.assertEqual(form(place), slow_number(rule, picture, place), (rule, picture, place))
        for place in (10 ** 6 + 1, 10 ** 60, 10 ** 60 + 1, 10 ** 60 + 2, 10 ** 60 + 3):
            self.assertEqual(form(place), number_at(rule, 2 * place + 2, picture))
        return form

    def test_bound(self):
        random = Random(87)
        for _ in range(300):
            rule, picture = random_rule(random), random_picture(random)
            self.assertEqual(bound(rule, picture), bound_by_hand(rule, picture))
        self.assertEqual(bound(KNOWN, TWICE), 4)
        self.assertEqual(bound(KNOWN, Picture([(0, 0, "h")])), 2)
        self.assertEqual(bound(Rule(7, LONG, "home"), Picture([(5, 0, "h"), (-5, 3, "a")])), 2 * 32 + 8)
        self.assertEqual(bound(Rule(-7, LONG, "home"), Picture([(-5, 0, "h"), (5, 3, "a")])), 2 * 32 + 8)
        self.assertEqual(bound(Rule(1, LONG, "home"), Picture([(5, 0, "h"), (4, 0, "a")])), 2 * 6 + 8)
        self.assertEqual(bound(Rule(1, LONG, "home"), Picture([(-5, 0, "h"), (-4, 0, "a")])), 2 * 6 + 8)

    def test_all_places_up_to_the_bound_and_on(self):
        random = Random(88)
        for _ in range(25):
            rule, picture = random_rule(random, [-2, -1, 1, 2]), random_picture(random, 1, 1)
            end = bound_by_hand(rule, picture) + 3 * len(rule.word.middle) + 1
            self.check_form(rule, picture, range(1, end))

    def test_near_wide_bounds(self):
        random = Random(89)
        for _ in range(14):
            rule, picture = random_rule(random), random_picture(random)
            end = bound_by_hand(rule, picture)
            near = random.sample(range(max(1, end - 4), end + 12), 2)
            self.check_form(rule, picture, list(range(1, 9)) + near)

    def test_known(self):
        self.assertEqual(form_of(KNOWN, TWICE), Form(1, [], [(0, 1, 0)]))
        self.assertEqual(form_of(rule=KNOWN, picture=TWICE), form_of(KNOWN, TWICE))
        never = Picture([(0, 0, "h"), (0, 1, "h"), (0, 2, "h")])
        self.assertEqual(form_of(KNOWN, never), Form(1, [], [(0, 0, 0)]))
        self.assertEqual(form_of(Rule(1, LONG, "home"), Picture([(0, 0, "h"), (0, 1, "a")])).first, 8)

    def test_home_or_away(self):
        random = Random(90)
        for _ in range(20):
            rule = random_rule(random)
            both = form_of(rule, Picture([(0, 0, "h")])) + form_of(rule, Picture([(0, 0, "a")]))
            # All teams of the ring in all rounds: (2 * p + 1) ** 2.
            least = rule.word.least
            self.assertEqual(both, Form(least, [], [(4, 4, 1)]))
            picture = random_picture(random)
            self.assertEqual(form_of(rule, picture), form_of(rule.contrary(), picture.contrary()))


def slow_first_seen(rule, picture):
    end = bound_by_hand(rule, picture) + 2 * len(rule.word.middle)
    for places in range(rule.word.least, end + 1):
        seen = league(rule, 2 * places + 2).seen(picture.cells)
        if seen:
            return (2 * places + 2, *seen[0])
    return None


class TestFirst(unittest.TestCase):
    def test_first_seen(self):
        random = Random(91)
        told = []
        for _ in range(80):
            rule = random_rule(random, [-3, -2, -1, 1, 2])
            picture = random_picture(random, 2, 2)
            told.append(views.first_seen(rule, picture))
            self.assertEqual(told[-1], slow_first_seen(rule, picture), (rule, picture))
        self.assertTrue(any(seen is None for seen in told))
        self.assertTrue(any(seen and seen[1] == 1 for seen in told))
        self.assertGreater(len({seen[0] for seen in told if seen}), 4)

    def test_known(self):
        self.assertEqual(views.first_seen(KNOWN, TWICE), (4, 0, 1))
        self.assertEqual(views.first_seen(picture=TWICE, rule=KNOWN), (4, 0, 1))
        for mark in "ha":
            thrice = Picture([(0, later, mark) for later in range(3)])
            self.assertIsNone(views.first_seen(KNOWN, thrice))
            self.assertEqual(list(views.seen_sizes(KNOWN, thrice)), [])
        # With all at home on one side, a team is at home four times in a row as soon as there is room.
        four = Picture([(0, later, "h") for later in range(4)])
        rule = Rule(-1, Word("", "h", ""), "away")
        self.assertEqual(views.first_seen(rule, four), slow_first_seen(rule, four))

    def slow_sizes(self, rule, picture, end):
        return [2 * places + 2 for places in range(rule.word.least, end) if slow_number(rule, picture, places) > 0]

    def test_seen_sizes(self):
        random = Random(92)
        kinds = []
        for _ in range(50):
            rule = random_rule(random, [-2, -1, 1, 2])
            picture = random_picture(random, 1, 2)
            end = bound_by_hand(rule, picture) + 2 * len(rule.word.middle) + 2
            slow = self.slow_sizes(rule, picture, end)
            sizes = []
            for size in views.seen_sizes(rule, picture):
                if size > 2 * end:
                    break
                sizes.append(size)
            self.assertEqual(sizes, slow, (rule, picture))
            self.assertEqual(views.first_seen(rule, picture), slow_first_seen(rule, picture))
            kinds.append(len(slow) if len(slow) < 3 else 3)
        self.assertIn(0, kinds)
        self.assertIn(3, kinds)

    def test_seen_at_a_few_sizes_only(self):
        random = Random(93)
        few = 0
        while few < 6:
            rule, picture = random_rule(random, [-2, -1, 1, 2]), random_picture(random, 2, 2)
            form = form_of(rule, picture)
            if form.rows() != [(0, 0, 0)] or form.early() == []:
                continue
            few += 1
            end = bound_by_hand(rule, picture) + 2 * len(rule.word.middle) + 2
            self.assertEqual(list(views.seen_sizes(rule, picture)), self.slow_sizes(rule, picture, end))

    def test_seen_at_some_rests_only(self):
        # Only where the middle begins again at the tail: at the ends, for one rest of the places by 3.
        rule = Rule(1, Word("", "haa", ""), "home")
        picture = Picture([(0, 0, "h"), (1, 0, "a"), (2, 0, "h")])
        sizes = list(islice(views.seen_sizes(rule, picture), 12))
        self.assertEqual(sizes, self.slow_sizes(rule, picture, sizes[-1] // 2))
        self.assertLess(set(sizes), set(range(4, sizes[-1] + 2, 2)))

    def test_runs_side_by_side(self):
        rule = Rule(1, Word("", "haa", ""), "home")
        picture = Picture([(0, 0, "h"), (1, 0, "a"), (2, 0, "h")])
        told = list(islice(views.seen_sizes(rule, picture), 40))
        one, other = views.seen_sizes(rule, picture), views.seen_sizes(picture=picture, rule=rule)
        both = []
        for at in range(20):
            both.append(next(one))
            if at % 2 == 0:
                self.assertEqual(next(other), told[at // 2])
        self.assertEqual(both, told[:20])
        self.assertEqual(list(islice(one, 20)), told[20:])
        self.assertEqual(list(islice(views.seen_sizes(KNOWN, TWICE), 5)), [4, 6, 8, 10, 12])
        self.assertTrue(inspect.isgeneratorfunction(views.seen_sizes))


class TestMore(unittest.TestCase):
    def numbers(self, rule, picture, end):
        """The numbers from the least number of places on, by going through rounds and teams."""
        return [slow_number(rule, picture, places) for places in range(rule.word.least, end)]

    def test_against_a_slow_search(self):
        random = Random(94)
        firsts, lasts = [], []
        for _ in range(60):
            rule = random_rule(random, [-2, -1, 1, 2])
            one, other = random_picture(random, 1, 1), random_picture(random, 1, 1)
            end = max(bound_by_hand(rule, one), bound_by_hand(rule, other)) + 3 * len(rule.word.middle)
            least = rule.word.least
            slow = [mine > yours for mine, yours in zip(self.numbers(rule, one, end), self.numbers(rule, other, end))]
            far = [number_at(rule, 2 * places + 2, one) > number_at(rule, 2 * places + 2, other)
                   for places in list(range(end, end + 200)) + [10 ** 9 + k for k in range(12)]]
            more = [2 * (least + at) + 2 for at, told in enumerate(slow + far[:200]) if told]
            firsts.append(views.first_more(rule, one, other))
            self.assertEqual(firsts[-1], more[0] if more else None)
            if not more:
                self.assertFalse(any(far))
            less = [least + at for at, told in enumerate(slow + far[:200]) if not told]
            lasts.append(views.more_from(rule, one, other))
            if all(far[100:]):
                self.assertEqual(lasts[-1], 2 * max(less, default=least - 1) + 4)
            else:
                self.assertIsNone(lasts[-1])
        for told in (firsts, lasts):
            self.assertIn(None, told)
            self.assertGreater(len(set(told)), 3)
        self.assertNotEqual(firsts, lasts)

    def test_same_picture(self):
        self.assertIsNone(views.first_more(KNOWN, TWICE, TWICE))
        self.assertIsNone(views.more_from(KNOWN, TWICE, TWICE))
        away = Picture([(0, 0, "a"), (0, 1, "a")])
        self.assertEqual((form_of(KNOWN, TWICE), form_of(KNOWN, away)),
                         (Form(1, [], [(0, 1, 0)]), Form(1, [], [(0, 1, 0)])))

    def test_just_one_more(self):
        # The standing team is at home in one round more than away, so the ring has one away more.
        home, away = Picture([(0, 0, "h")]), Picture([(0, 0, "a")])
        for word in (KNOWN.word, LONG):
            rule = Rule(-1, word, "even")
            least = rule.least_size
            self.assertEqual([number_at(rule, n, away) - number_at(rule, n, home) for n in (least, 10 ** 60)], [1, 1])
            self.assertEqual((views.first_more(rule, away, home), views.more_from(rule, away, home)), (least, least))
            self.assertEqual((views.first_more(rule, home, away), views.more_from(rule, home, away)), (None, None))

    def test_from_the_least_size_on(self):
        home, away = Picture([(0, 0, "h")]), TWICE
        self.assertEqual(views.first_more(rule=KNOWN, picture=home, other=away), 4)
        self.assertEqual(views.more_from(rule=KNOWN, picture=home, other=away), 4)
        self.assertIsNone(views.first_more(KNOWN, away, home))
        self.assertIsNone(views.more_from(KNOWN, away, home))


class TestRefused(Refusing, unittest.TestCase):
    def test_sizes(self):
        for rule in (KNOWN, Rule(-3, LONG, "even")):
            for size in no_sizes(rule):
                for day, team in ((0, 0), (None, None), (-1, 10 ** 60)):
                    self.refused(InvalidSize, size, is_seen, rule, size, TWICE, day, team)
                    self.refused(InvalidSize, size, number_in, rule, size, TWICE, day)
                self.refused(InvalidSize, size, number_at, rule, size, TWICE)

    def test_days(self):
        for n in (4, 6, 10 ** 40):
            for day in NO_INTEGERS + [-1, n - 1, n, 10 ** 60]:
                for team in (0, n - 1, None):
                    self.refused(InvalidRound, day, is_seen, KNOWN, n, TWICE, day, team)
                self.refused(InvalidRound, day, number_in, KNOWN, n, TWICE, day)

    def test_teams_and_the_standing_one(self):
        for n in (4, 6, 10 ** 40):
            for day in (0, n - 3, n - 2):
                for team in no_teams(n - 1):
                    self.refused(InvalidTeam, team, is_seen, KNOWN, n, TWICE, day, team)



if __name__ == "__main__":
    unittest.main()
