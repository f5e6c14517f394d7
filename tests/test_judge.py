import unittest
from random import Random

from ringrows.breaks import breaks_at, breaks_form
from ringrows.errors import InvalidClaim
from ringrows.forms import Form
from ringrows.judge import is_claim, is_paper, is_right_for_breaks, is_right_form, is_true, paper
from ringrows.pictures import Picture
from ringrows.rules import Rule
from ringrows.tables import Table, table_of
from ringrows.views import form_of, number_at
from ringrows.words import Word
from tests.made import KNOWN, NO_INTEGERS, Refusing, random_picture, random_rule
from tests.slow import STANDERS, even_homes, fewest_turned, form_value, gauge_show, homes_by_team, league
from tests.test_breaks import slow_breaks, slow_wasteful
from tests.test_mends import DAY, LEAN, meetings_of, random_single
from tests.test_views import bound_by_hand, slow_number

TWICE = Picture([(0, 0, "h"), (0, 1, "h")])
THRICE = Picture([(0, 0, "h"), (0, 1, "h"), (0, 2, "h")])
HOME = Picture([(0, 0, "h")])
THIRD = Rule(3, Word("", "ha", ""), "even")
LONG = Rule(-2, Word("h", "aha", "ha"), "odd", True)

# A true claim of each kind, and one that is not true.
TRUE = [("seen", KNOWN, TWICE), ("never", KNOWN, THRICE), ("more", KNOWN, HOME, TWICE), ("no more", KNOWN, TWICE, HOME),
        ("right", KNOWN), ("wrong", THIRD), ("thrifty", KNOWN), ("wasteful", THIRD), ("mended", LEAN, [(0, 1)], 1),
        ("unmended", LEAN, ((0, 3),), 1)]
UNTRUE = [("seen", KNOWN, THRICE), ("never", KNOWN, TWICE), ("more", KNOWN, TWICE, HOME),
          ("no more", KNOWN, HOME, TWICE),
          ("right", THIRD), ("wrong", KNOWN), ("thrifty", THIRD), ("wasteful", KNOWN), ("mended", LEAN, [(0, 3)], 1),
          ("unmended", LEAN, (), 1)]
NO_CLAIMS = [
    None, True, 0, 1, "seen", "right", b"right", [], (), {}, {"right": KNOWN}, KNOWN, TWICE, LEAN, ("right",),
    (KNOWN,), (KNOWN, "right"), (("right", KNOWN),), ("right", (KNOWN,)), (None, KNOWN), (0, KNOWN),
    (b"right", KNOWN), (["right"], KNOWN), ((), KNOWN), ("", KNOWN), ("Right", KNOWN), ("right ", KNOWN),
    ("nomore", KNOWN, TWICE, HOME), ("no  more", KNOWN, TWICE, HOME), ("less", KNOWN, TWICE, HOME), ("even", LEAN),
    ("mend", LEAN, [], 1),
]


def parts_of(form):
    return form.first, form.early(), form.rows()


def long_form(form, begin, period):
    """A form with the same values, told at greater length: from a begin on, with so many rows."""
    first, early, rows = parts_of(form)
    told = [form_value(first, early, rows, place) for place in range(first, begin)]
    many = period // len(rows)
    spread = []
    for rest in range(period):
        a, b, c = rows[rest % len(rows)]
        k = rest // len(rows)
        spread.append((a * many * many, 2 * a * many * k + b * many, a * k * k + b * k + c))
    return Form(first, told, spread)


def is_right_by_hand(rule, least, value, number):
    """Whether a value is right by [93], its values held against those of a slow number."""
    if value.__class__ is not Form or value.first != rule.word.least or not least <= value.begin <= 200:
        return False
    if value.period % len(rule.word.middle) != 0 or value.period > 24:
        return False
    return all(form_value(*parts_of(value), p) == number(p)
               for p in range(value.first, value.begin + 3 * value.period))


def breaks_bound_by_hand(rule):
    return 2 * abs(rule.step) + 2 + len(rule.word.head + rule.word.tail)


class TestClaims(Refusing, unittest.TestCase):
    def test_right_parts(self):
        for claim in TRUE + UNTRUE:
            self.assertIs(is_claim(claim), True, claim)
        for claim in (("mended", LEAN, [], 0), ("unmended", LEAN, meetings_of(LEAN), 10 ** 60),
                      ("mended", table_of(KNOWN, 24), meetings_of(table_of(KNOWN, 24)), 276),
                      ("more", LONG, TWICE, TWICE), ("never", LONG, random_picture(Random(630)))):
            self.assertIs(is_claim(value=claim), True)

    def test_one_wrong_part(self):
        rules = [None, True, 0, "", str(KNOWN), KNOWN.word, TWICE, LEAN, [KNOWN], (KNOWN,), Rule, {},
                 form_of(KNOWN, HOME)]
        pictures = [None, True, 0, "", str(TWICE), TWICE.cells, list(TWICE.cells), [TWICE], KNOWN, LEAN, Picture]
        tables = [None, True, 0, "", LEAN.rounds(), [LEAN], KNOWN, TWICE, Table, Table([DAY]), Table([DAY] * 3),
                  Table(LEAN.rounds()[:2]), Table(LEAN.rounds() * 2)]
        fixed = [None, True, 0, "", "01", {}, {(0, 1): True}, (0, 1), [0, 1], [(1, 0)], [(0, 1), (0, 1)], [[0, 1]],
                 [(0, 4)],
                 [(0, True)], [None], [(0, 1), None], LEAN]
        counts = NO_INTEGERS + [-1, -10 ** 60, KNOWN, "1"]
        for claim in TRUE:
            for at, part in enumerate(claim):
                if at > 0:
                    wrong = rules if at == 1 else pictures
                    if part.__class__ in (Table, list, tuple, int):
                        wrong = {Table: tables, list: fixed, tuple: fixed, int: counts}[part.__class__]
                    for value in wrong:
                        spoilt = claim[:at] + (value,) + claim[at + 1:]
                        self.check_none(spoilt)

    def check_none(self, value):
        self.assertIs(is_claim(value), False, value)
        self.refused(InvalidClaim, value, is_true, value)
        self.refused(InvalidClaim, value, paper, value)
        self.refused(InvalidClaim, value, is_paper, value, None)

    def test_lists_and_other_lengths(self):
        for claim in TRUE:
            for value in (list(claim), claim[:-1], claim[:1], claim + (None,), claim + claim[-1:], claim[1:],
                          claim[::-1],
                          (claim,), claim[0], {claim[0]: claim[1:]}, (claim[0].upper(),) + claim[1:],
                          (claim[0].encode(),) + claim[1:]):
                self.check_none(value)

    def test_any_values(self):
        for value in NO_CLAIMS:
            self.check_none(value)


class TestTrue(unittest.TestCase):
    def check(self, claim, told):
        """Holds whether a claim is true; if it is, it has a paper, else it has none."""
        self.assertIs(is_true(claim), told, claim)
        made = paper(claim)
        if told:
            self.assertIs(is_paper(claim, made), True, (claim, made))
            self.assertIs(self.judged(claim, made), True, (claim, made))
        else:
            self.assertIsNone(made)

    def judged(self, claim, value):
        """Whether a value is a paper, by the words of [92], held against leagues that are written out."""
        name, rule = claim[:2]
        if name == "seen":
            n, r, x = value
            return value.__class__ is tuple and league(rule, n).is_seen(claim[2].cells, r, x)
        if name in ("never", "no more"):
            told = [value] if name == "never" else list(value)
            right = [is_right_by_hand(rule, bound_by_hand(rule, picture), form,
                                      lambda p: number_at(rule, 2 * p + 2, picture))
                     for form, picture in zip(told, claim[2:])]
            forms = [parts_of(form) for form in told]
            if name == "never":
                return right == [True] and all(form_value(*forms[0], p) == 0 for p in range(forms[0][0], 300))
            places = list(range(forms[0][0], 300)) + [10 ** 60 + k for k in range(24)]
            return right == [True, True] and all(form_value(*forms[0], p) <= form_value(*forms[1], p) for p in places)
        if name == "more":
            return slow_number(rule, claim[2], value // 2 - 1) > slow_number(rule, claim[3], value // 2 - 1)
        if name == "right":
            return value in (0, 1, 2) and 2 ** value == abs(rule.step)
        if name == "wrong":
            n, x, y = value
            return value.__class__ is tuple and x < y and len(league(rule, n).met(x, y)) != 1
        if name == "thrifty":
            right = is_right_by_hand(rule, breaks_bound_by_hand(rule), value, lambda p: slow_breaks(rule, p))
            return right and all(form_value(*parts_of(value), p) == 2 * p for p in range(value.first, 300))
        if name == "wasteful":
            return league(rule, value).breaks() != value - 2
        return self.judged_league(*claim, value)

    def judged_league(self, name, table, fixed, many, value):
        if name == "unmended":
            return len(value) == table.size and gauge_show(table.rounds(), table.size, fixed, value) > many
        even = even_homes(homes_by_team(table.with_turned(value).rounds(), table.size))
        return value == sorted(set(value)) and not set(value) & set(fixed) and even and len(value) <= many

    def test_known(self):
        for claim in TRUE:
            self.check(claim, True)
        for claim in UNTRUE:
            self.check(claim, False)
        self.assertEqual(paper(claim=("right", Rule(-4, Word("", "h", ""), "home"))), 2)
        self.assertEqual(paper(("mended", LEAN, [], 4)), [(0, 3)])
        self.assertIs(is_paper(claim=("seen", KNOWN, TWICE), value=(4, 0, 1)), True)
        self.assertIs(is_true(claim=("seen", KNOWN, TWICE)), True)

    def test_seen_and_never(self):
        random = Random(631)
        found = []
        for at in range(60):
            rule = random_rule(random, [-2, -1, 1, 2])
            picture = random_picture(random, *((1, 1), (0, 2), (1, 3))[at % 3])
            if at % 3 == 0:
                rule = Rule(rule.step, Word("", random.choice(("ha", "h", "a")), ""), rule.stander, rule.turned)
            end = bound_by_hand(rule, picture) + 2 * len(rule.word.middle)
            told = any(slow_number(rule, picture, p) > 0 for p in range(rule.word.least, end + 1))
            self.check(("seen", rule, picture), told)
            self.check(("never", rule, picture), not told)
            found.append(told)
        self.assertGreater(found.count(False), 3)

    def test_more_and_no_more(self):
        random = Random(632)
        found = []
        for _ in range(40):
            rule = random_rule(random, [-2, -1, 1, 2])
            one, other = random_picture(random, 1, 1), random_picture(random, 1, 1)
            end = max(bound_by_hand(rule, one), bound_by_hand(rule, other)) + 3 * len(rule.word.middle)
            told = [slow_number(rule, one, p) > slow_number(rule, other, p) for p in range(rule.word.least, end)]
            told += [number_at(rule, n, one) > number_at(rule, n, other) for n in range(2 * end + 2, 2 * end + 300, 2)]
            self.check(("more", rule, one, other), True in told)
            self.check(("no more", rule, one, other), True not in told)
            found.append(True in told)
        self.assertEqual(set(found), {True, False})

    def test_right_and_wrong(self):
        for step in range(-7, 8):
            for parts in (("", "ha", ""), ("hh", "a", "ha"), ("hhhh", "a", "hhhh")):
                if step != 0:
                    rule = Rule(step, Word(*parts), "odd")
                    sizes = range(rule.least_size, rule.least_size + 40, 2)
                    told = all(league(rule, n).is_right() for n in sizes)
                    self.check(("right", rule), told)
                    self.check(("wrong", rule), not told)

    def test_thrifty_and_wasteful(self):
        random = Random(633)
        rules = [Rule(step, Word(*parts), stander) for step in (-1, 1, 2) for stander in STANDERS
                 for parts in (("", "ha", ""), ("h", "ah", ""), ("haha", "ha", ""), ("", "ha", "h"), ("a", "ha", ""))]
        rules += [random_rule(random, [-2, -1, 1, 2]) for _ in range(10)]
        found = []
        for rule in rules:
            told = slow_wasteful(rule) is None
            self.check(("thrifty", rule), told)
            self.check(("wasteful", rule), not told)
            found.append(told)
        self.assertGreater(found.count(True), 3)

    def test_mended_and_unmended(self):
        random = Random(634)
        found = set()
        for _ in range(60):
            table = random_single(random, 4)
            fixed = random.sample(meetings_of(table), random.randint(0, 5))
            least = fewest_turned(table.rounds(), 4, fixed)
            for many in (0, 1, 2, 3, 4, 10 ** 60):
                told = least is not None and least <= many
                self.check(("mended", table, fixed, many), told)
                self.check(("unmended", table, tuple(fixed), many), not told)
            found.add(least)
        self.assertTrue({None, 0, 1, 2} <= found)
        for size in (12, 24):
            table = random_single(random, size)
            fixed = random.sample(meetings_of(table), size)
            for many in (0, 5, 20, 276):
                told = is_true(("mended", table, fixed, many))
                self.check(("mended", table, fixed, many), told)
                self.check(("unmended", table, fixed, many), not told)


class TestPapers(unittest.TestCase):
    def accepted(self, claim, values):
        for value in values:
            self.assertIs(is_paper(claim, value), True, (claim, value))

    def none(self, claim, values):
        for value in values:
            self.assertIs(is_paper(claim, value), False, (claim, value))

    def test_of_other_kinds(self):
        papers = [paper(claim) for claim in TRUE]
        wrong = NO_INTEGERS + [-1, 10 ** 60, "", (4, 0), (4, 0, 1, 1), [4, 0, 1], (None,) * 3, ("4", 0, 1),
                               (4, False, True),
                               KNOWN, TWICE, LEAN, Form(1, [], [(0, 0, 0)]), [[0, 3]], [0, 0, 0], [None] * 4,
                               [True] * 4,
                               (Form, Form), Form, [(0, 3), (0, 3)]]
        for claim, own in zip(TRUE, papers):
            self.accepted(claim, [own])
            for value in wrong + [other for other, name in zip(papers, TRUE) if name[0] != claim[0]]:
                # A size, and a COUNT, can be a paper of several claims; so can numbers for four teams.
                if not self.is_fitting(claim, value):
                    self.none(claim, [value])
        for claim in UNTRUE:
            self.none(claim, papers + wrong)

    def is_fitting(self, claim, value):
        name = claim[0]
        if name in ("more", "wasteful", "right"):
            return value.__class__ is int
        if name in ("seen", "wrong"):
            return value.__class__ is tuple and [part.__class__ for part in value] == [int] * 3
        return name == "unmended" and value.__class__ is list and [part.__class__ for part in value] == [int] * 4

    def test_seen(self):
        claim = ("seen", KNOWN, TWICE)
        for n in (4, 6, 10):
            slow = league(KNOWN, n)
            for r in range(-1, n + 1):
                for x in range(-1, n + 1):
                    told = 0 <= r < n - 1 and 0 <= x < n - 1 and slow.is_seen(TWICE.cells, r, x)
                    self.assertIs(is_paper(claim, (n, r, x)), told)
        for n in (4, 6):
            slow = league(KNOWN, n)
            for r in range(n + 1):
                for x in range(n + 1):
                    told = r < n - 1 and x < n - 1 and slow.is_seen(HOME.cells, r, x)
                    self.assertIs(is_paper(("seen", KNOWN, HOME), (n, r, x)), told)
        # From the seat 1 in an even round the team comes to the seat 0, at home in both.
        self.accepted(claim, [(10 ** 60, 0, 1), (10 ** 60, 10 ** 59, 10 ** 59 + 1)])
        self.none(claim, [(10 ** 60, 10 ** 59, 10 ** 59), (10 ** 60, 10 ** 59 + 1, 10 ** 59 + 2), (4, False, 1),
                          (4, 0, True),
                          (True, 0, 1), ("4", 0, 1), [4, 0, 1], (4, 0), (4, 0, 1, 0), (5, 0, 1), (2, 0, 1), (0, 0, 0),
                          (-4, 0, 1), (10 ** 60 + 1, 0, 1), ((4,), 0, 1), (4, [0], 1)])
        # A size that is none of the rule's.
        rule = Rule(1, Word("hhah", "aha", "haaa"), "home")
        self.none(("seen", rule, HOME), [(16, 0, x) for x in range(15)] + [(4, 0, 1)])
        self.accepted(("seen", rule, HOME), [(18, 0, 1)])

    def test_never(self):
        claim = ("never", KNOWN, THRICE)
        least = bound_by_hand(KNOWN, THRICE)
        for begin in range(1, least + 5):
            for period in (1, 2, 3, 4, 6, 24):
                form = Form(1, [0] * (begin - 1), [(0, 0, 0)] * period)
                self.assertIs(is_paper(claim, form), begin >= least and period % 2 == 0)
        good = Form(1, [0] * (least - 1), [(0, 0, 0)] * 2)
        self.none(claim, [good + 1, Form(1, [0] * (least - 2) + [1], [(0, 0, 0)] * 2), (good,), [good], repr(good),
                          Form(0, [0] * least, [(0, 0, 0)] * 2), Form(2, [0] * (least - 2), [(0, 0, 0)] * 2),
                          Form(1, [0] * (least - 1), [(0, 0, 0), (0, 0, 1)])])
        # The right form of a picture that is seen is none of a claim that it is not.
        self.none(("never", KNOWN, TWICE), [long_form(form_of(KNOWN, TWICE), 20, 2), good])

    def test_more_and_wasteful(self):
        rule = LONG
        random = Random(635)
        for _ in range(10):
            one, other = random_picture(random, 1, 1), random_picture(random, 1, 1)
            for n in range(-2, 24):
                told = n % 2 == 0 and n >= rule.least_size and (slow_number(rule, one, n // 2 - 1)
                                                                > slow_number(rule, other, n // 2 - 1))
                self.assertIs(is_paper(("more", rule, one, other), n), told)
        for n in range(-2, 40):
            for rule in (LONG, THIRD, KNOWN, Rule(1, Word("", "ha", "h"), "even")):
                told = n % 2 == 0 and n >= rule.least_size and league(rule, n).breaks() != n - 2
                self.assertIs(is_paper(("wasteful", rule), n), told)
        for claim in (("more", KNOWN, HOME, TWICE), ("wasteful", THIRD)):
            self.accepted(claim, [10 ** 60, 4])
            self.none(claim, NO_INTEGERS + [10 ** 60 + 1, -4, 0, 2, 5, (4,), [4], "4"])

    def test_no_more(self):
        claim = ("no more", KNOWN, TWICE, HOME)
        one, other = [long_form(form_of(KNOWN, picture), 12, 2) for picture in (TWICE, HOME)]
        self.accepted(claim, [(one, other), (long_form(one, 200, 24), other), (one, long_form(other, 40, 8))])
        self.none(claim, [[one, other], (other, one), (one,), (one, other, other), (one, one), (other, other), one,
                          (one, None),
                          (None, other), (one - 1, other), (one, other + 1), (form_of(KNOWN, TWICE), other), ()])
        # Right forms, the first one of which is above the other one somewhere.
        self.none(("no more", KNOWN, HOME, TWICE), [(other, one)])
        self.none(("no more", KNOWN, HOME, TWICE), [(one, other), (one, one), (other, other)])
        self.accepted(("no more", KNOWN, TWICE, TWICE), [(one, one)])
        # Just one more team is away than at home, in all rounds together.
        away = long_form(form_of(KNOWN, Picture([(0, 0, "a")])), 12, 2)
        self.assertIs(is_right_form(KNOWN, Picture([(0, 0, "a")]), away), True)
        self.none(("no more", KNOWN, Picture([(0, 0, "a")]), HOME), [(away, other)])
        self.accepted(("no more", KNOWN, HOME, Picture([(0, 0, "a")])), [(other, away)])

    def test_right(self):
        for step in range(-7, 8):
            if step != 0:
                claim = ("right", Rule(step, Word("", "h", ""), "home"))
                self.none(claim, [k for k in list(range(-3, 70)) + [10 ** 60] if k < 0 or k > 9 or 2 ** k != abs(step)])
                self.none(claim, NO_INTEGERS)
        for step, k in ((1, 0), (-1, 0), (2, 1), (-2, 1), (4, 2), (-4, 2)):
            self.accepted(("right", Rule(step, Word("", "h", ""), "home")), [k])

    def test_wrong(self):
        for rule in (THIRD, KNOWN, Rule(-6, Word("", "h", ""), "odd", True), Rule(5, Word("hh", "a", ""), "away")):
            for n in (4, 6, 10, 16):
                slow = league(rule, n) if n >= rule.least_size else None
                for x in range(-1, n + 1):
                    for y in range(-1, n + 1):
                        told = slow is not None and 0 <= x < y < n and len(slow.met(x, y)) != 1
                        self.assertIs(is_paper(("wrong", rule), (n, x, y)), told, (rule, n, x, y))
        self.accepted(("wrong", THIRD), [(10 ** 60, 0, 10 ** 60 - 1), (4, 0, 3)])
        self.none(("wrong", THIRD), [(10 ** 60, 0, 10 ** 60), (10 ** 60 + 2, 0, 1), [4, 0, 1], (4, 0), (4, False, 1),
                                     (4, 0, True), (4, 0, None), ("4", 0, 1), (4, 1, 1), (3, 0, 1), (7, 0, 1)])

    def test_thrifty(self):
        claim = ("thrifty", KNOWN)
        good = Form(1, [2, 4, 6], [(0, 4, 0), (0, 4, 2)])
        self.accepted(claim, [good, long_form(good, 200, 24), long_form(good, 5, 4)])
        self.none(claim, [good + 1, good * 2, Form(1, [2, 4], [(0, 4, 0), (0, 4, 2)]), Form(1, [2, 4, 6], [(0, 2, 0)]),
                          Form(1, [2, 4, 7], [(0, 4, 0), (0, 4, 2)]), [good], breaks_form(KNOWN)])
        # A right form for the breaks of a rule that is not thrifty.
        wasteful = Rule(1, Word("", "h", ""), "even")
        form = long_form(breaks_form(wasteful), 10, 1)
        self.assertIs(is_right_for_breaks(wasteful, form), True)
        self.none(("thrifty", wasteful), [form, good])

    def test_mended(self):
        self.accepted(("mended", LEAN, [], 1), [[(0, 3)], ((0, 3),)])
        self.accepted(("mended", LEAN, [(0, 3)], 2), [[(0, 1), (1, 3)], [(0, 2), (2, 3)]])
        self.accepted(("mended", table_of(KNOWN, 24), [], 0), [[], ()])
        self.none(("mended", LEAN, [], 1), [[(0, 1), (1, 3)], [(3, 0)], [(0, 3), (0, 3)], [], [[0, 3]], [(0, True)],
                                            (0, 3), None,
                                            "03", [None], {(0, 3): True}, [(0, 3, 0)], [(0, 4)]])
        self.none(("mended", LEAN, [], 2), [[(1, 3), (0, 1)], ((1, 3), (0, 1))])
        self.none(("mended", LEAN, [(0, 3)], 4), [[(0, 3)], [(0, 1), (0, 3), (1, 3)]])
        self.none(("mended", LEAN, [], 0), [[(0, 3)], []])

    def test_unmended(self):
        random = Random(636)
        for _ in range(300):
            table = random_single(random, random.choice((4, 6)))
            fixed = random.sample(meetings_of(table), random.randint(0, 6))
            reach = random.choice((1, 2, 10 ** 60))
            gauge = [random.randint(-reach, reach) for _ in range(table.size)]
            slow = gauge_show(table.rounds(), table.size, fixed, gauge)
            for many in (0, 1, 2, max(0, slow), max(0, slow - 1)):
                self.assertIs(is_paper(("unmended", table, fixed, many), gauge), slow > many)
                self.assertIs(is_paper(("unmended", table, fixed, many), tuple(gauge)), slow > many)
        self.accepted(("unmended", LEAN, [], 0), [[0, 0, 0, 1], [-1, 0, 0, 0]])
        self.none(("unmended", LEAN, [], 0), [[0, 0, 0, True], [False, 0, 0, 1], [0, 0, 1], [0, 0, 0, 0, 1],
                                              [0, 0, 0, None],
                                              [0, 0, 0, "1"], "0001", {0: 0, 1: 0, 2: 0, 3: 1}, None, 1, [0, 0, 0, 0]])


class TestRightForms(unittest.TestCase):
    def check_lengths(self, rule, form, least, is_right):
        """Holds a form told at several lengths against [93], and spoilt ones."""
        first, middle = rule.word.least, len(rule.word.middle)
        begins = [max(least, first), max(least, first) + 1, least + 7, 199, 200]
        for begin in begins:
            for period in (middle, 2 * middle, 24):
                good = long_form(form, begin, period)
                self.assertIs(is_right(good), True)
                self.check_spoilt(good, is_right)
        if least - 1 >= max(first, form.begin):
            self.assertIs(is_right(long_form(form, least - 1, middle)), False)
        for begin in (least + 1, 200):
            good = long_form(form, begin, 24)
            rows = good.rows()
            for other in (first - 1, first + 1):
                if other >= 0:
                    early = ([0] + good.early())[:begin - other] if other < first else good.early()[1:]
                    self.assertIs(is_right(Form(other, early, rows)), False)
        for period in range(1, 25):
            if period % form.period == 0 and period % middle != 0:
                self.assertIs(is_right(long_form(form, least + 3, period)), False)

    def check_spoilt(self, good, is_right):
        random = Random(good.begin)
        first, early, rows = parts_of(good)
        if early:
            for at in (0, len(early) - 1, random.randrange(len(early))):
                for more in (1, -1):
                    spoilt = early[:at] + [early[at] + more] + early[at + 1:]
                    self.assertIs(is_right(Form(first, spoilt, rows)), False)
        at = random.randrange(len(rows))
        a, b, c = rows[at]
        for row in ((a, b, c + 1), (a, b - 1, c), (a + 1, b, c)):
            self.assertIs(is_right(Form(first, early, rows[:at] + [row] + rows[at + 1:])), False)
        # A row that is right at the first two places behind the begin, and at the third one is not.
        turn = -((at - good.begin) // len(rows))
        row = (a + 1, b - 2 * turn - 1, c + turn * (turn + 1))
        self.assertIs(is_right(Form(first, early, rows[:at] + [row] + rows[at + 1:])), False)

    def test_pictures(self):
        random = Random(637)
        for at in range(8):
            rule = LONG if at == 0 else random_rule(random, [-2, -1, 1, 2, 3])
            picture = random_picture(random, 2, 2)
            self.check_lengths(rule, form_of(rule, picture), bound_by_hand(rule, picture),
                               lambda value: is_right_form(rule, picture, value))

    def test_breaks(self):
        random = Random(638)
        for at in range(8):
            rule = KNOWN if at == 0 else random_rule(random)
            self.check_lengths(rule, breaks_form(rule), breaks_bound_by_hand(rule),
                               lambda value: is_right_for_breaks(rule, value))

    def test_two_hundred_and_one(self):
        form = form_of(KNOWN, TWICE)
        self.assertIs(is_right_form(KNOWN, TWICE, Form(1, list(range(1, 200)), [(0, 2, 0), (0, 2, 1)])), True)
        self.assertIs(is_right_form(KNOWN, TWICE, Form(1, list(range(1, 201)), [(0, 2, 0), (0, 2, 1)])), False)
        self.assertIs(is_right_for_breaks(KNOWN, Form(1, list(range(2, 400, 2)), [(0, 4, 0), (0, 4, 2)])), True)
        self.assertIs(is_right_for_breaks(KNOWN, Form(1, list(range(2, 402, 2)), [(0, 4, 0), (0, 4, 2)])), False)
        # The reduced form has one row only, and no early values.
        self.assertIs(is_right_form(rule=KNOWN, picture=TWICE, value=form), False)
        self.assertIs(is_right_for_breaks(rule=KNOWN, value=breaks_form(KNOWN)), False)

    def test_more_than_twenty_four_rows(self):
        # Forms that are added, and taken times 0, can have more rows than one that is made.
        early = [0] * 19 + [5]
        two, many = Form(1, early, [(0, 0, 0), (0, 0, 1)]), Form(1, early, [(0, 0, 0)] * 12 + [(0, 0, 1)])
        for form, period in ((two * 0, 2), ((two + many) * 0, 26), ((two + Form(1, [1], [(0, 0, 1)] * 7)) * 0, 2)):
            self.assertEqual((form.begin, form.period), (21, period))
            self.assertIs(is_right_form(KNOWN, THRICE, form), period <= 24)
            self.assertIs(is_paper(("never", KNOWN, THRICE), form), period <= 24)

    def test_of_one_picture_and_one_rule_alone(self):
        good = long_form(form_of(KNOWN, TWICE), 12, 2)
        self.assertIs(is_right_form(KNOWN, TWICE, good), True)
        self.assertIs(is_right_form(KNOWN, HOME, good), False)
        self.assertIs(is_right_form(KNOWN, THRICE, good), False)
        self.assertIs(is_right_form(Rule(2, KNOWN.word, "even"), TWICE, good), False)
        self.assertIs(is_right_for_breaks(KNOWN, good), False)

    def test_any_values(self):
        for value in NO_INTEGERS + [0, 1, KNOWN, TWICE, LEAN, Form, "Form(1, [], [(0, 1, 0)])", [(0, 1, 0)],
                                    Form(10 ** 60, [], [(0, 0, 0)] * 2), Form(0, [], [(0, 0, 0)])]:
            self.assertIs(is_right_form(KNOWN, TWICE, value), False)
            self.assertIs(is_right_for_breaks(KNOWN, value), False)

    def test_right_far_away(self):
        random = Random(639)
        for _ in range(20):
            rule, picture = random_rule(random), random_picture(random)
            form = long_form(form_of(rule, picture), bound_by_hand(rule, picture) + random.randint(8, 20), 12)
            breaks = long_form(breaks_form(rule), breaks_bound_by_hand(rule) + 8, 12)
            self.assertIs(is_right_form(rule, picture, form), True)
            self.assertIs(is_right_for_breaks(rule, breaks), True)
            for place in [300, 301] + [10 ** 60 + k for k in range(4)]:
                self.assertEqual(form(place), number_at(rule, 2 * place + 2, picture))
                self.assertEqual(breaks(place), breaks_at(rule, 2 * place + 2))
        for place in (30, 41):
            self.assertEqual(long_form(form_of(LONG, TWICE), 20, 3)(place), slow_number(LONG, TWICE, place))


if __name__ == "__main__":
    unittest.main()
