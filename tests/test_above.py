import unittest
from random import Random

from ringrows.errors import InvalidNumber
from ringrows.forms import Form, above_from, first_above, first_unlike, same_values
from tests.test_forms import NO_INTEGERS, random_form
from tests.test_reduced import told_longer


def turning_places(form):
    """For each rest the places around the turning point of its row."""
    places = []
    for rest, (a, b, _) in enumerate(form.rows()):
        if a != 0:
            turn = -b // (2 * a)
            places += [form.period * (turn + k) + rest for k in range(-3, 4)]
    return places


def last_held(holds, low, high):
    """The greatest place from low on, below high, up to which holds; low holds, high does not."""
    while high - low > 1:
        middle = (low + high) // 2
        low, high = (middle, high) if holds(middle) else (low, middle)
    return low


class TestUnlike(unittest.TestCase):
    def place_by_place(self, one, other):
        first = max(one.first, other.first)
        end = max(one.begin, other.begin) + 3 * one.period * other.period
        return next((place for place in range(first, end) if one(place) != other(place)), None)

    def check(self, one, other):
        place = self.place_by_place(one, other)
        for pair in ((one, other), (other, one)):
            self.assertEqual(first_unlike(*pair), place)
            self.assertIs(same_values(*pair), place is None)

    def test_against_place_by_place(self):
        random = Random(7)
        for _ in range(300):
            one = random_form(random, 4, 4, 2)
            self.check(one, random_form(random, 4, 4, 1))
            self.check(one, told_longer(one, random.randint(0, 9), random.randint(1, 6)))
            self.check(one, one.reduced())

    def test_other_firsts(self):
        one = Form(0, [9, 9, 9, 3], [(0, 1, 0)])
        self.assertTrue(same_values(one, Form(3, [], [(0, 1, 0)])))
        self.assertTrue(same_values(Form(3, [], [(0, 1, 0)]), one))
        self.assertIsNone(first_unlike(one, Form(7, [], [(0, 1, 0)])))
        self.assertEqual(first_unlike(one, Form(2, [], [(0, 1, 0)])), 2)
        self.assertEqual(first_unlike(Form(2, [], [(0, 1, 0)]), one), 2)

    def test_unlike_behind_two_equal_values(self):
        # One row is (t - 1) * (t - 2) more than 0: it differs at t = 0 and again from t = 3 on.
        one = Form(1, [0, 0], [(1, -3, 2)])
        self.assertEqual(first_unlike(one, Form.level(0, 0)), 3)
        one = Form(10, [], [(0, 0, 0), (1, -13, 42)])
        self.assertEqual(first_unlike(one, Form.level(0, 0)), 11)
        one = Form(13, [], [(0, 0, 0), (1, -13, 42)])
        self.assertEqual(first_unlike(one, Form.level(0, 0)), 17)

    def test_unlike_at_an_early_value(self):
        one = Form(0, [0] * 199 + [1], [(0, 0, 0)])
        self.assertEqual(first_unlike(one, Form.level(0, 0)), 199)
        self.assertIsNone(first_unlike(one, Form.level(200, 0)))

    def test_by_name_and_far(self):
        far = Form(10 ** 59, [1], [(0, 1, 0)])
        self.assertEqual(first_unlike(one=far, other=Form(0, [], [(0, 1, 0)])), 10 ** 59)
        self.assertFalse(same_values(one=far, other=Form.level(0, 1)))

    def test_lists_are_told_as_bools(self):
        form = Form(0, [], [(0, 0, 1)])
        self.assertIs(same_values(form, form), True)
        self.assertIs(same_values(form, -form), False)


class TestAbove(unittest.TestCase):
    def check_near(self, form, number, end):
        """By place, where all turning points and roots lie below end."""
        above = [place for place in range(form.first, end) if form(place) > number]
        self.assertEqual(first_above(form, number), above[0] if above else None)
        low = [place for place in range(form.first, end) if form(place) <= number]
        if low and low[-1] >= end - form.period:
            self.assertIsNone(above_from(form, number))
        else:
            self.assertEqual(above_from(form, number), low[-1] + 1 if low else form.first)

    def test_against_place_by_place(self):
        random = Random(8)
        for most in (1, 3, 9):
            for _ in range(200):
                form = random_form(random, 4, 4, most)
                self.check_near(form, random.randint(-3 * most, 3 * most), 300)

    def test_rows_that_turn(self):
        random = Random(9)
        for _ in range(400):
            rows = []
            for _ in range(random.randint(1, 3)):
                one, other, sign = random.randint(-2, 12), random.randint(-2, 12), random.choice((1, -1))
                shift = random.choice((0, 0, 1, -1, random.randint(-20, 20)))
                rows.append((sign, -sign * (one + other), sign * one * other + shift))
            form = Form(random.randint(0, 4), [random.randint(-2, 2)] * random.randint(0, 3), rows)
            for number in (0, -1, 1, random.randint(-15, 15)):
                self.check_near(form, number, 200)

    def test_small_rows_all(self):
        for a in range(-3, 4):
            for b in range(-7, 8):
                for c in range(-7, 8):
                    for begin in (0, 2):
                        self.check_near(Form(begin, [], [(a, b, c)]), 0, 60)

    def test_level_and_even_numbers(self):
        form = Form(2, [5], [(0, 0, 3), (0, 0, 4)])
        self.assertEqual([first_above(form, number) for number in (2, 3, 4, 5)], [2, 2, 2, None])
        self.assertEqual([above_from(form, number) for number in (2, 3, 4, 5)], [2, None, None, None])
        self.assertIsNone(above_from(Form.level(0, 7), 7))
        self.assertIsNone(first_above(Form.level(0, 7), 7))
        self.assertEqual(above_from(Form.level(4, 7), 6), 4)

    def test_early_values_decide(self):
        form = Form(1, [9, 0, 9], [(0, 0, 5)])
        self.assertEqual((first_above(form, 8), above_from(form, 4)), (1, 3))
        self.assertEqual(above_from(Form(1, [9, 9, 0], [(0, 0, 5)]), 4), 4)
        self.assertEqual(first_above(Form(1, [0, 0, 9], [(0, 0, 5)]), 4), 3)
        self.assertEqual(above_from(Form(1, [9, 8, 9], [(0, 1, 5)]), 4), 1)

    def test_roots_between_two_places(self):
        # 4 * t * t - 12 * t + 8 + 1 is 0 at t = 3 / 2 alone.
        self.assertEqual(above_from(Form(0, [], [(4, -12, 9)]), 0), 0)
        self.assertEqual(first_above(Form(0, [], [(-4, 12, -9)]), 0), None)
        self.assertEqual(first_above(Form(0, [], [(-4, 12, -8)]), 0), None)
        self.assertEqual(first_above(Form(0, [], [(-4, 12, -8)]), -1), 1)

    def test_turning_points_far_away(self):
        for far in (10 ** 9 + 7, 10 ** 25, 10 ** 25 + 1):
            peak = Form(0, [], [(-1, 2 * far, -far * far)])
            self.assertEqual(first_above(peak, -1), far)
            self.assertIsNone(first_above(peak, 0))
            self.assertEqual(first_above(peak, -5), far - 2)
            self.assertEqual(first_above(peak, -4), far - 1)
            self.assertIsNone(above_from(peak, -10 ** 60))
            dip = Form(0, [], [(1, -2 * far, far * far)])
            self.assertEqual(above_from(dip, 0), far + 1)
            self.assertEqual(above_from(dip, -1), 0)
            self.assertEqual(above_from(dip, 4), far + 3)
            self.assertEqual(above_from(dip, 3), far + 2)
            late = Form(far, [0], [(1, -2 * far, far * far), (0, 0, 9)])
            self.assertEqual(above_from(late, 0), 2 * far + 1)
            two = Form(0, [], [(0, 0, 0), (-1, 2 * far, -far * far)])
            self.assertEqual((first_above(two, -1), first_above(two, 0)), (0, None))
            self.assertEqual(first_above(two * 1 - 1, -1), None)

    def test_a_begin_behind_the_turning_point(self):
        far = 10 ** 25
        hill = (-1, 2 * far, -far * far + 5)
        self.assertEqual(first_above(Form(far + 2, [], [hill]), 0), far + 2)
        self.assertIsNone(first_above(Form(far + 3, [], [hill]), 0))
        self.assertEqual(first_above(Form(far - 9, [], [hill]), 0), far - 2)
        dip = (1, -2 * far, far * far - 5)
        self.assertEqual(above_from(Form(far + 3, [], [dip]), 0), far + 3)
        self.assertEqual(above_from(Form(far + 2, [], [dip]), 0), far + 3)
        self.assertEqual(first_above(Form(far - 2, [], [dip]), 0), far + 3)
        self.assertEqual(first_above(Form(far - 3, [], [dip]), 0), far - 3)

    def test_far_against_halving(self):
        random = Random(10)
        for _ in range(300):
            turn = random.randint(0, 10 ** 25)
            a = random.randint(1, 10 ** random.randint(0, 20))
            number = random.randint(0, 10 ** random.randint(1, 60))
            shift = random.randint(0, 2 * a)
            dip = Form(0, [], [(a, -2 * a * turn - shift, 0)])
            bottom = min(turning_places(dip), key=lambda place: dip(place) if place >= 0 else 10 ** 99)
            top = 2 * turn + 3 + number
            last = last_held(lambda place: dip(place) <= number, bottom, top)
            self.assertEqual(above_from(dip, number), last + 1)
            self.assertEqual(first_above(dip, number), last + 1)
            hill = -dip
            best = hill(bottom)
            self.assertIsNone(first_above(hill, best))
            wanted = random.randint(0, best)
            if hill(0) <= wanted < best:
                low = last_held(lambda place: hill(place) <= wanted, 0, bottom)
                self.assertEqual(first_above(hill, wanted), low + 1)

    def test_rows_that_rise(self):
        half = Form(0, [], [(2, -1, 0), (2, 1, 0)])
        found = first_above(half, 10 ** 40 + 1)
        self.assertEqual(found, 141421356237309504881)
        self.assertTrue(half(found) > 10 ** 40 + 1 >= half(found - 1))
        self.assertEqual(above_from(half, 10 ** 40 + 1), found)
        line = Form(0, [], [(0, 7, -3)])
        self.assertEqual([first_above(line, number) for number in (-4, -3, 3, 4, 10 ** 60)],
                         [0, 1, 1, 2, (10 ** 60 + 3) // 7 + 1])

    def test_numbers_refused(self):
        form = Form(0, [], [(0, 1, 0)])
        for ask in (first_above, above_from):
            for value in NO_INTEGERS + [form]:
                with self.assertRaises(InvalidNumber) as caught:
                    ask(form, value)
                self.assertIs(caught.exception.value, value)
            self.assertEqual(ask(number=3, form=form), 4)


if __name__ == "__main__":
    unittest.main()
