import unittest
from random import Random

from ringrows.errors import InvalidFirst, InvalidNumber, InvalidPlace, InvalidRows, InvalidValues, TooMany
from ringrows.forms import Form
from tests.slow import form_value, reduced_parts

NO_INTEGERS = [None, True, False, "1", b"1", [], [1], (1,), {}, print]


def random_form(random, many_early=6, many_rows=6, most=9):
    early = [random.randint(-most, most) for _ in range(random.randint(0, many_early))]
    rows = [tuple(random.choice((0, random.randint(-most, most))) for _ in range(3))
            for _ in range(random.randint(1, many_rows))]
    return Form(random.randint(0, 9), early, rows)


class FormCase(unittest.TestCase):
    def refused(self, error, part, call, *values):
        """The error that is raised has just the told part."""
        with self.assertRaises(error) as caught:
            call(*values)
        self.assertIs(caught.exception.__class__, error)
        self.assertEqual(list(vars(caught.exception).values()), [part])
        self.assertIs(list(vars(caught.exception).values())[0].__class__, part.__class__)

    def too_many(self, what, limit, call, *values):
        with self.assertRaises(TooMany) as caught:
            call(*values)
        self.assertEqual((caught.exception.what, caught.exception.limit), (what, limit))


class TestMade(FormCase):
    def test_parts(self):
        form = Form(3, [7, -1], [(1, 2, 3), (0, 0, -4), (5, 0, 0)])
        self.assertEqual((form.first, form.begin, form.period), (3, 5, 3))
        self.assertEqual((form.early(), form.rows()), ([7, -1], [(1, 2, 3), (0, 0, -4), (5, 0, 0)]))

    def test_by_name(self):
        form = Form(rows=[(0, 0, 1)], early=[2], first=1)
        self.assertEqual(form, Form(1, [2], [(0, 0, 1)]))
        self.assertEqual(form(place=2), 1)
        self.assertEqual(Form.level(number=4, first=2), Form(2, [], [(0, 0, 4)]))

    def test_tuples_are_lists(self):
        form = Form(1, (4,), ((0, 0, 1), (0, 1, 0)))
        self.assertEqual(form, Form(1, [4], [(0, 0, 1), (0, 1, 0)]))
        self.assertIs(form.early().__class__, list)
        self.assertIs(form.rows().__class__, list)

    def test_first(self):
        for value in NO_INTEGERS + [-1, -10 ** 50]:
            self.refused(InvalidFirst, value, Form, value, None, None)
        self.assertEqual(Form(0, [], [(0, 0, 0)]).first, 0)
        self.assertEqual(Form(10 ** 59, [1], [(0, 0, 0)]).begin, 10 ** 59 + 1)

    def test_values(self):
        for value in (None, 1, "12", b"12", {1: 2}, {1}, range(2), iter([1])):
            self.refused(InvalidValues, None, Form, 0, value, None)
        for value in NO_INTEGERS:
            self.refused(InvalidValues, 1, Form, 0, [1, value, None], None)
            self.refused(InvalidValues, 0, Form, 0, (value,), [])
        self.refused(InvalidValues, 200, Form, 0, [1] * 200 + [True], [])

    def test_rows(self):
        for value in (None, 1, "12", b"12", {1: 2}, {1}, [], (), range(2)):
            self.refused(InvalidRows, None, Form, 0, [], value)
        for row in (None, 1, [0, 0, 1], (), (1, 2), (1, 2, 3, 4), "123", (1, True, 2), (False, 1, 2), (1, 2, None)):
            self.refused(InvalidRows, 1, Form, 0, [1], [(0, 0, 1), row, None])
            self.refused(InvalidRows, 0, Form, 0, [1], (row, (0, 0, 1)))
        for value in NO_INTEGERS:
            for at in range(3):
                row = [0, 1, 2]
                row[at] = value
                self.refused(InvalidRows, 2, Form, 0, [], [(0, 0, 0), (1, 1, 1), tuple(row), 5])

    def test_limits_behind_all_others(self):
        self.assertEqual(len(Form(0, [1] * 200, [(0, 0, 1)] * 24).early()), 200)
        self.too_many("values", 200, Form, 0, [1] * 201, [(0, 0, 1)])
        self.too_many("rows", 24, Form, 0, [1] * 200, [(0, 0, 1)] * 25)
        self.too_many("values", 200, Form, 0, [1] * 201, [(0, 0, 1)] * 25)
        self.refused(InvalidRows, None, Form, 0, [1] * 201, [])
        self.refused(InvalidRows, 24, Form, 0, [1] * 201, [(0, 0, 1)] * 24 + [(0, 0)])
        self.refused(InvalidValues, 200, Form, 0, [1] * 200 + [None], [(0, 0, 1)] * 25)
        self.refused(InvalidFirst, -1, Form, -1, [1] * 201, [(0, 0, 1)] * 25)

    def test_sequence_of_errors(self):
        self.refused(InvalidFirst, None, Form, None, None, None)
        self.refused(InvalidValues, None, Form, 0, None, None)
        self.refused(InvalidValues, 0, Form, 0, [None], None)
        self.refused(InvalidRows, None, Form, 0, [], None)

    def test_passed_and_returned_lists_are_copies(self):
        early, rows = [1, 2], [(0, 0, 1), (0, 1, 0)]
        form = Form(0, early, rows)
        early.append(3)
        rows[0] = (9, 9, 9)
        form.early().clear()
        form.rows().append(None)
        self.assertEqual((form.early(), form.rows()), ([1, 2], [(0, 0, 1), (0, 1, 0)]))
        changed = form.reduced()
        changed.early().clear()
        changed.rows().clear()
        self.assertEqual(form.reduced(), changed)
        self.assertEqual(form.begin, 2)

    def test_never_changes(self):
        form = Form(0, [], [(0, 0, 0)])
        for name in ("first", "begin", "period"):
            with self.assertRaises(AttributeError):
                setattr(form, name, 5)

    def test_level(self):
        form = Form.level(3, -8)
        self.assertEqual(repr(form), "Form(3, [], [(0, 0, -8)])")
        self.assertEqual([form(place) for place in (3, 4, 10 ** 60)], [-8] * 3)
        for value in NO_INTEGERS + [-1]:
            self.refused(InvalidFirst, value, Form.level, value, None)
        for value in NO_INTEGERS + [form]:
            self.refused(InvalidNumber, value, Form.level, 0, value)

    def test_equal(self):
        form = Form(1, [2], [(0, 0, 1), (0, 0, 1)])
        self.assertTrue(form == Form(1, [2], [(0, 0, 1), (0, 0, 1)]))
        self.assertFalse(form != Form(1, [2], [(0, 0, 1), (0, 0, 1)]))
        for other in (Form(0, [2], [(0, 0, 1), (0, 0, 1)]), Form(1, [3], [(0, 0, 1), (0, 0, 1)]),
                      Form(1, [2], [(0, 0, 1)]), form.reduced(), Form(1, [2], [(0, 0, 1), (0, 0, 2)]),
                      Form(1, [2, 1], [(0, 0, 1), (0, 0, 1)]), None, 1, repr(form), (1, [2], [(0, 0, 1), (0, 0, 1)])):
            self.assertIs(form == other, False)
            self.assertIs(other == form, False)

    def test_repr(self):
        self.assertEqual(repr(Form(1, (0, 3), ((0, 2, 1),))), "Form(1, [0, 3], [(0, 2, 1)])")
        self.assertEqual(repr(Form(0, [], [(0, 0, -1), (1, 0, 0)])), "Form(0, [], [(0, 0, -1), (1, 0, 0)])")


class TestValue(FormCase):
    def test_early_begin_and_on(self):
        form = Form(2, [50, 60], [(1, 2, 3), (0, -1, 4), (2, 0, 0)])
        self.assertEqual([form(place) for place in range(2, 11)], [50, 60, 3, 2, 11, 2, 8, 18, 1])

    def test_against_the_words(self):
        random = Random(1)
        for _ in range(200):
            form = random_form(random)
            for place in list(range(form.first, form.first + 40)) + [10 ** 61 + 7, 10 ** 59]:
                self.assertEqual(form(place), form_value(form.first, form.early(), form.rows(), place))

    def test_far(self):
        form = Form(10 ** 59, [5], [(1, 0, 0), (0, 1, 10 ** 60)])
        self.assertEqual(form(10 ** 59), 5)
        self.assertEqual(form(10 ** 59 + 1), 5 * 10 ** 58 + 10 ** 60)
        self.assertEqual(form(10 ** 80), 25 * 10 ** 158)

    def test_places_refused(self):
        form = Form(3, [1], [(0, 0, 0)])
        for place in NO_INTEGERS + [2, 0, -3, -10 ** 60, form]:
            self.refused(InvalidPlace, place, form, place)


class TestReckoned(FormCase):
    def each(self, made, reckoned, first):
        self.assertEqual(made.first, first)
        for place in list(range(first, first + 60)) + [10 ** 60 + k for k in range(12)]:
            self.assertEqual(made(place), reckoned(place))

    def test_sum_and_difference(self):
        random = Random(2)
        for _ in range(150):
            one, other = random_form(random), random_form(random)
            first = max(one.first, other.first)
            self.each(one + other, lambda place: one(place) + other(place), first)
            self.each(one - other, lambda place: one(place) - other(place), first)
            for made in (one + other, one - other):
                self.assertEqual(made, made.reduced())
                told = reduced_parts(made.first, made.early(), made.rows())
                self.assertEqual((made.early(), made.rows()), told)

    def test_sum_is_reduced(self):
        half = Form(0, [], [(2, -1, 0), (2, 1, 0)])
        self.assertEqual(repr(half + half), "Form(0, [], [(1, -1, 0)])")
        self.assertEqual(repr(half - half), "Form(0, [], [(0, 0, 0)])")
        one = Form(1, [4, 5, 6], [(0, 0, 1), (0, 0, 2)])
        self.assertEqual(repr(one + Form(2, [], [(0, 0, 2), (0, 0, 1)])), "Form(2, [7, 7], [(0, 0, 3)])")
        self.assertEqual(repr(one + Form(9, [], [(0, 0, 0)])), "Form(9, [], [(0, 0, 1), (0, 0, 2)])")

    def test_sum_has_no_limits(self):
        one = Form(0, list(range(200)), [(0, 0, k) for k in range(23)])
        other = Form(150, [k * k for k in range(200)], [(0, k, 1) for k in range(24)])
        made = one + other
        self.assertEqual((made.first, made.begin, made.period), (150, 350, 552))
        self.each(made, lambda place: one(place) + other(place), 150)
        far = Form(10 ** 59, [1, 2], [(0, 0, 3)])
        self.assertEqual((one + far).begin, 10 ** 59 + 2)
        self.assertEqual((made + made)(700), 2 * made(700))
        self.assertEqual((made * 2).period, 552)
        self.assertEqual((made - made).rows(), [(0, 0, 0)])

    def test_numbers_keep_numbers_of_parts(self):
        form = Form(1, [2, 2], [(0, 0, 2), (0, 0, 2)])
        self.assertEqual(repr(form + 3), "Form(1, [5, 5], [(0, 0, 5), (0, 0, 5)])")
        self.assertEqual(repr(3 + form), "Form(1, [5, 5], [(0, 0, 5), (0, 0, 5)])")
        self.assertEqual(repr(form - 3), "Form(1, [-1, -1], [(0, 0, -1), (0, 0, -1)])")
        self.assertEqual(repr(form * 3), "Form(1, [6, 6], [(0, 0, 6), (0, 0, 6)])")
        self.assertEqual(repr(3 * form), "Form(1, [6, 6], [(0, 0, 6), (0, 0, 6)])")
        self.assertEqual(repr(form * 0), "Form(1, [0, 0], [(0, 0, 0), (0, 0, 0)])")
        self.assertEqual(repr(-form), "Form(1, [-2, -2], [(0, 0, -2), (0, 0, -2)])")

    def test_numbers(self):
        random = Random(3)
        for _ in range(60):
            form, number = random_form(random), random.choice((0, 1, -4, 10 ** 60))
            for made, reckoned in ((form + number, lambda place: form(place) + number),
                                   (number + form, lambda place: form(place) + number),
                                   (form - number, lambda place: form(place) - number),
                                   (form * number, lambda place: form(place) * number),
                                   (number * form, lambda place: form(place) * number),
                                   (-form, lambda place: -form(place))):
                self.each(made, reckoned, form.first)
                self.assertEqual((made.begin, made.period), (form.begin, form.period))

    def test_refused(self):
        form = Form(1, [2], [(0, 1, 0)])
        for value in NO_INTEGERS:
            self.refused(InvalidNumber, value, lambda: form + value)
            self.refused(InvalidNumber, value, lambda: value + form)
            self.refused(InvalidNumber, value, lambda: form - value)
            self.refused(InvalidNumber, value, lambda: form * value)
            self.refused(InvalidNumber, value, lambda: value * form)
        for other in (form, Form(0, [], [(1, 1, 1)])):
            self.refused(InvalidNumber, other, lambda: form * other)

    def test_assigned_sums_are_new(self):
        form = kept = Form(1, [2], [(0, 1, 0)])
        form += 1
        self.assertIsNot(form, kept)
        self.assertEqual((repr(form), repr(kept)), ("Form(1, [3], [(0, 1, 1)])", "Form(1, [2], [(0, 1, 0)])"))
        form *= 2
        form -= kept
        self.assertEqual(repr(form), "Form(1, [4], [(0, 1, 2)])")
        self.assertEqual(repr(kept), "Form(1, [2], [(0, 1, 0)])")

    def test_operands_do_not_change(self):
        one, other = Form(0, [1, 2], [(0, 0, 5), (0, 0, 5)]), Form(1, [], [(0, 1, 0)])
        for made in (one + other, one - other, one + 1, 1 + one, one * 2, -one, one.reduced()):
            self.assertIsNot(made, one)
        self.assertEqual(repr([one, other]), "[Form(0, [1, 2], [(0, 0, 5), (0, 0, 5)]), Form(1, [], [(0, 1, 0)])]")


if __name__ == "__main__":
    unittest.main()
