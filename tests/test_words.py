import unittest
from random import Random

from ringrows.errors import InvalidMarks, InvalidPlace, TooMany
from ringrows.words import Word, first_unlike_place, same_rows
from tests.slow import all_words, unlike_place, word_least, word_row

NO_MARKS = [None, 1, True, b"h", ["h"], ("h",), "x", "H", "h ", "hax", "hahah", "h" * 20000, "|"]
NO_INTEGERS = [None, True, False, "3", b"3", [], [3], (3,), {}]

# Words that agree for long: the first four pairs at six numbers of places from eight on, as long as there are.
LONG = [
    (("hhhh", "hha", "hhhh"), ("hhh", "hhha", "hhhh")),
    (("hhhh", "hha", "ahaa"), ("hhh", "hhha", "ahaa")),
    (("aaaa", "aah", "aaha"), ("aaa", "aaah", "aaha")),
    (("aaaa", "aah", "aaaa"), ("aaa", "aaah", "aaaa")),
    (("", "hah", ""), ("", "hahh", "")),
    (("haha", "haah", ""), ("", "ha", "")),
    (("", "haha", "a"), ("", "ha", "ha")),
    (("haha", "hha", ""), ("", "hah", "")),
    (("", "aaah", ""), ("aa", "aha", "")),
    (("ahaa", "haa", ""), ("", "aha", "")),
    (("", "h", "hhha"), ("hhhh", "h", "a")),
    (("", "h", "hhha"), ("hhhh", "h", "ha")),
    (("", "h", ""), ("hhhh", "hhha", "")),
    (("hhhh", "hhha", "hhhh"), ("", "h", "")),
    (("", "h", "a"), ("hhhh", "hhha", "")),
    (("", "ha", "haha"), ("", "ha", "")),
    (("", "haa", "haa"), ("", "haa", "")),
    (("", "haaa", "haaa"), ("", "haaa", "aaa")),
    (("", "hhha", "hhha"), ("", "hhha", "a")),
]


class TestMade(unittest.TestCase):
    def refused(self, value, *parts):
        with self.assertRaises(InvalidMarks) as caught:
            Word(*parts)
        self.assertIs(caught.exception.__class__, InvalidMarks)
        self.assertIs(caught.exception.value, value)

    def test_parts(self):
        word = Word("ha", "a", "hhaa")
        self.assertEqual((word.head, word.middle, word.tail, word.least), ("ha", "a", "hhaa", 6))
        self.assertEqual(Word(tail="h", middle="a", head="ha"), Word("ha", "a", "h"))

    def test_least(self):
        for parts in all_words()[::7]:
            self.assertEqual(Word(*parts).least, word_least(*parts))
        self.assertEqual((Word("", "hh", "").least, Word("h", "hh", "").least, Word("", "hh", "a").least), (1, 1, 1))
        self.assertEqual(Word("haha", "h", "haha").least, 8)

    def test_first_wrong_part(self):
        for value in NO_MARKS:
            for parts in ((value, "", 5), (value, "h", "a")):
                self.refused(value, *parts)
            for parts in (("", value, 5), ("haha", value, "")):
                self.refused(value, *parts)
            self.refused(value, "h", "a", value)
        for parts in (("", "", ""), ("h", "", "xxxxx")):
            self.refused("", *parts)
        self.assertEqual(str(Word("", "h", "")), "|h|")
        self.assertEqual(str(Word("hhhh", "aaaa", "haha")), "hhhh|aaaa|haha")

    def test_equal(self):
        word = Word("ha", "ha", "h")
        self.assertTrue(word == Word("ha", "ha", "h"))
        self.assertFalse(word != Word("ha", "ha", "h"))
        for other in (Word("", "ha", "h"), Word("ha", "haha", "h"), Word("ha", "ha", ""), word.reduced(),
                      "ha|ha|h", ("ha", "ha", "h"), None):
            self.assertIs(word == other, False)
            self.assertIs(other == word, False)

    def test_texts(self):
        self.assertEqual((str(Word("ha", "a", "h")), repr(Word("ha", "a", "h"))), ("ha|a|h", "Word('ha', 'a', 'h')"))
        self.assertEqual((str(Word("", "ha", "")), repr(Word("", "ha", ""))), ("|ha|", "Word('', 'ha', '')"))

    def test_contrary(self):
        self.assertEqual(repr(Word("ha", "aah", "").contrary()), "Word('ah', 'hha', '')")
        for parts in all_words()[::97]:
            word = Word(*parts)
            self.assertEqual(word.contrary().contrary(), word)
            other = word.contrary().row(13)
            self.assertTrue(all(mine != yours for mine, yours in zip(word.row(13), other)))
            self.assertEqual(repr(word), f"Word{parts!r}")

    def test_never_changes(self):
        word = Word("ha", "a", "h")
        for name in ("head", "middle", "tail", "least"):
            with self.assertRaises(AttributeError):
                setattr(word, name, "h")


class TestRows(unittest.TestCase):
    def refused(self, value, call, *values):
        with self.assertRaises(InvalidPlace) as caught:
            call(*values)
        self.assertEqual(caught.exception.value, value)
        self.assertIs(caught.exception.value.__class__, value.__class__)

    def test_against_writing_out(self):
        for parts in all_words()[::5]:
            word = Word(*parts)
            for places in range(word.least, 15):
                row = word_row(*parts, places)
                self.assertEqual(word.row(places), row)
                self.assertEqual("".join(word.mark(places, place) for place in range(1, places + 1)), row)
                self.assertEqual([word.homes(places, place) for place in range(places + 1)],
                                 [row[:place].count("h") for place in range(places + 1)])

    def test_told_rows(self):
        word = Word("hh", "aha", "ah")
        self.assertEqual([word.row(places) for places in range(4, 10)],
                         ["hhah", "hhaah", "hhahah", "hhahaah", "hhahaaah", "hhahaahah"])
        self.assertEqual(Word("", "ah", "").row(places=1), "a")
        self.assertEqual(word.mark(place=3, places=9), "a")
        self.assertEqual(word.homes(place=9, places=9), 5)

    def test_places_of_sixty_digits(self):
        random = Random(11)
        words = all_words()
        for _ in range(400):
            parts = random.choice(words)
            head, middle, tail = parts
            word = Word(*parts)
            places = random.randint(10 ** 59, 10 ** 60 - 1)
            # The same rest by the middle, with as many places left out as fit.
            near = (places - len(head + tail)) % len(middle) + 12 * len(middle) + len(head + tail)
            skipped = places - near
            row = word_row(*parts, near)
            whole = skipped // len(middle) * middle.count("h")
            for place in range(near + 1):
                self.assertEqual(word.homes(places, place), word_row(*parts, near + 12)[:place].count("h")
                                 if place <= near - len(tail) else word_row(head, middle, "", near)[:place].count("h"))
            for back in range(9):
                self.assertEqual(word.mark(places, places - back), row[near - back - 1])
                self.assertEqual(word.homes(places, places - back), row[:near - back].count("h") + whole)
            for place in range(1, 20):
                self.assertEqual(word.mark(places, place), word_row(head, middle, "", 20)[place - 1])
            deep = random.randint(10 ** 40, 10 ** 58)
            self.assertEqual(word.mark(places, deep), middle[(deep - 1 - len(head)) % len(middle)])
            step = word.homes(places, deep) - word.homes(places, deep - 1)
            self.assertEqual(step, int(word.mark(places, deep) == "h"))

    def test_numbers_of_places_refused(self):
        word = Word("ha", "a", "h")
        for value in NO_INTEGERS + [2, 0, -1, -10 ** 60]:
            self.refused(value, word.row, value)
            self.refused(value, word.mark, value, None)
            self.refused(value, word.homes, value, None)
        for value in (0, -1):
            self.refused(value, Word("", "a", "").row, value)

    def test_places_refused(self):
        word = Word("ha", "a", "h")
        for value in NO_INTEGERS + [-1, 8, 10 ** 60]:
            self.refused(value, word.mark, 7, value)
            self.refused(value, word.homes, 7, value)
        self.refused(0, word.mark, 7, 0)
        self.refused(10 ** 50 + 1, word.mark, 10 ** 50, 10 ** 50 + 1)
        self.assertEqual((word.homes(7, 0), word.homes(7, 7), word.mark(7, 1), word.mark(7, 7)), (0, 2, "h", "h"))

    def test_limit_of_row_alone(self):
        word = Word("ha", "ah", "h")
        self.assertEqual(word.row(2000), word_row("ha", "ah", "h", 2000))
        for places in (2001, 10 ** 60):
            with self.assertRaises(TooMany) as caught:
                word.row(places)
            self.assertEqual((caught.exception.what, caught.exception.limit), ("places", 2000))
        self.assertEqual((word.mark(2001, 2001), word.homes(2001, 0)), ("h", 0))


class TestAlike(unittest.TestCase):
    def test_reduced_against_all_words(self):
        groups = {}
        for parts in all_words():
            # With up to 24 places all words that are not alike differ somewhere.
            rows = tuple(word_row(*parts, places) for places in range(8, 25))
            groups.setdefault(rows, []).append(parts)
        for parts_alike in groups.values():
            lengths = [(len(middle), len(head), len(tail)) for head, middle, tail in parts_alike]
            self.assertEqual(lengths.count(min(lengths)), 1)
            best = parts_alike[lengths.index(min(lengths))]
            reduced = Word(*best)
            for parts in parts_alike:
                self.assertEqual(Word(*parts).reduced(), reduced)
                for places in range(word_least(*parts), 8):
                    self.assertEqual(word_row(*parts, places), word_row(*best, places))

    def test_reduced(self):
        for text, reduced in ((("ah", "hh", "h"), "a|h|"), (("h", "ha", ""), "h|ha|"), (("a", "ha", ""), "|ah|"),
                              (("haha", "haha", "ha"), "|ha|ha"), (("", "hhhh", "hhah"), "|h|ah"),
                              (("hh", "ah", "h"), "h|ha|h"), (("", "haha", ""), "|ha|"), (("", "haah", ""), "|haah|")):
            self.assertEqual(str(Word(*text).reduced()), reduced)

    def check(self, one, other):
        # All words that are not alike differ at one of the first few numbers of places.
        told = unlike_place(one, other, 25)
        mine, yours = Word(*one), Word(*other)
        self.assertEqual(first_unlike_place(mine, yours), told, (one, other))
        self.assertEqual(first_unlike_place(one=yours, other=mine), told, (one, other))
        self.assertIs(same_rows(mine, yours), told is None)
        self.assertIs(same_rows(one=yours, other=mine), told is None)

    def test_words_that_agree_for_long(self):
        for one, other in LONG:
            self.check(one, other)
        for one, other in LONG[:4]:
            self.assertEqual(first_unlike_place(Word(*one), Word(*other)), (14, 10))

    def test_middles_of_one_mark(self):
        words = [parts for parts in all_words() if parts[1] in ("h", "hh", "a")]
        random = Random(12)
        for _ in range(2000):
            self.check(random.choice(words), random.choice(words))

    def test_all_words_without_tail(self):
        words = [parts for parts in all_words() if parts[2] == "" and len(parts[0]) in (0, 3, 4)]
        for one in words[::3]:
            for other in words[::7]:
                if word_row(*one, 5) == word_row(*other, 5):
                    self.check(one, other)

    def test_all_words_with_tails(self):
        random = Random(13)
        near = {}
        for parts in all_words():
            near.setdefault(word_row(*parts, 9), []).append(parts)
        for parts_near in near.values():
            for _ in range(8):
                self.check(random.choice(parts_near), random.choice(parts_near))

    def test_from_the_greater_least_number_on(self):
        self.assertTrue(same_rows(Word("", "a", "a"), Word("a", "a", "")))
        self.assertIsNone(first_unlike_place(Word("hhhh", "h", "hhhh"), Word("", "h", "")))
        # For fewer places than eight the second word tells nothing.
        self.assertEqual(first_unlike_place(Word("", "ah", ""), Word("ahah", "ah", "haha")), (8, 5))
        self.assertEqual(first_unlike_place(Word("", "h", ""), Word("", "a", "")), (1, 1))


if __name__ == "__main__":
    unittest.main()
