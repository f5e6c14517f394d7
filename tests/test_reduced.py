import unittest
from random import Random

from ringrows.forms import Form, same_values
from tests.slow import form_value, reduced_parts
from tests.test_forms import random_form


def told_longer(form, early, times):
    """The same form with so many more early values, and so many times as many rows, from its values alone."""
    period = form.period * times
    values = [form(place) for place in range(form.first, form.begin + early)]
    begin = form.begin + early
    rows = []
    t = begin // period + 1
    for rest in range(period):
        one, two, three = [form(rest + period * (t + k)) for k in range(3)]
        a = (three - 2 * two + one) // 2
        b = two - one - a * (2 * t + 1)
        rows.append((a, b, one - a * t * t - b * t))
    return Form(form.first, values, rows)


class TestReduced(unittest.TestCase):
    def check(self, form):
        early, rows = reduced_parts(form.first, form.early(), form.rows())
        reduced = form.reduced()
        self.assertEqual((reduced.first, reduced.early(), reduced.rows()), (form.first, early, rows))
        for place in list(range(form.first, form.begin + 3 * form.period)) + [10 ** 60, 10 ** 60 + 1]:
            self.assertEqual(reduced(place), form(place))
        self.assertEqual(reduced.reduced(), reduced)
        return reduced

    def test_two_rows_are_wanted(self):
        triangle = Form(0, [], [(2, 1, 0), (2, 3, 1)])
        self.assertEqual([triangle(place) for place in range(6)], [0, 1, 3, 6, 10, 15])
        self.assertEqual(self.check(triangle), triangle)
        for times in range(2, 13):
            self.assertEqual(self.check(told_longer(triangle, 5, times)), triangle)

    def test_halves_beside_a_period(self):
        # On each of three rests a half of t * (t + 1): no three rows of INTEGERS will do, six will.
        form = Form(0, [], [(2, 1, 0), (2, 1, 5), (0, 1, 0), (2, 3, 1), (2, 3, 6), (0, 1, 0)])
        self.assertEqual(self.check(form), form)
        self.assertEqual(self.check(told_longer(form, 0, 4)), form)

    def test_one_row(self):
        self.assertEqual(repr(Form(0, [], [(4, 0, 0), (4, 4, 1)]).reduced()), "Form(0, [], [(1, 0, 0)])")
        self.assertEqual(repr(Form(0, [], [(0, 0, 7)] * 24).reduced()), "Form(0, [], [(0, 0, 7)])")
        self.assertEqual(repr(Form(0, [], [(0, 2, -1), (0, 2, 0)]).reduced()), "Form(0, [], [(0, 1, -1)])")

    def test_halves_of_a_step(self):
        # The quotient of p by 2 is no polynomial of p, and b is no multiple of 2.
        form = Form(0, [], [(0, 1, 0), (0, 1, 0)])
        self.assertEqual(self.check(form), form)
        form = Form(0, [], [(1, 0, 0), (1, 1, 0)])
        self.assertEqual(self.check(form), form)

    def test_early_values_that_continue_the_rows(self):
        self.assertEqual(repr(Form(2, [2, 3, 4], [(0, 1, 0)]).reduced()), "Form(2, [], [(0, 1, 0)])")
        self.assertEqual(repr(Form(2, [0, 3, 4], [(0, 1, 0)]).reduced()), "Form(2, [0], [(0, 1, 0)])")
        self.assertEqual(repr(Form(2, [2, 3, 5], [(0, 1, 0)]).reduced()), "Form(2, [2, 3, 5], [(0, 1, 0)])")
        self.assertEqual(repr(Form(1, [0, 1, 0], [(0, 0, 1), (0, 0, 0)]).reduced()),
                         "Form(1, [], [(0, 0, 1), (0, 0, 0)])")

    def test_against_all_shorter_forms(self):
        random = Random(4)
        for _ in range(150):
            self.check(random_form(random))
        for _ in range(300):
            self.check(random_form(random, 4, 6, 1))

    def test_told_longer(self):
        random = Random(5)
        for _ in range(60):
            form = random_form(random, 5, 6, 2)
            times = random.randint(1, 24 // form.period)
            longer = told_longer(form, random.randint(0, 20), times)
            self.assertEqual(self.check(longer), self.check(form))

    def test_two_hundred_values_and_twenty_four_rows(self):
        random = Random(6)
        for period in (1, 2, 3, 4, 6, 8, 12, 24):
            rows = [tuple(random.randint(-2, 2) for _ in range(3)) for _ in range(period)]
            form = Form(3, [100], rows)
            longer = told_longer(form, 199, 24 // period)
            self.assertEqual((len(longer.early()), longer.period), (200, 24))
            self.assertEqual(self.check(longer), form.reduced())

    def test_one_of_many_rows_is_another(self):
        for at in range(24):
            rows = [(0, 0, 1)] * 24
            rows[at] = (0, 0, 2)
            form = Form(0, [], rows)
            self.assertEqual(form.reduced(), form)

    def test_great_numbers(self):
        great = 10 ** 59
        form = Form(great, [1, 2], [(great, -great, 7), (great, great, 8)])
        for place in (great, great + 1, great + 2, 10 ** 61 + 1):
            self.assertEqual(form.reduced()(place), form_value(great, [1, 2], form.rows(), place))
        longer = Form(great, [], [(4 * great, 0, 0), (4 * great, 4 * great, great)])
        self.assertEqual(longer.reduced(), Form(great, [], [(great, 0, 0)]))
        self.assertTrue(same_values(longer, longer.reduced()))


if __name__ == "__main__":
    unittest.main()
