import unittest
from random import Random

from ringrows.errors import InvalidText
from ringrows.pictures import Picture
from ringrows.rules import Rule
from ringrows.tables import Table, table_of
from ringrows.texts import read_picture, read_rule, read_table, read_word, table_text
from ringrows.words import Word
from tests.made import KNOWN, STEPS, WORDS, Refusing, random_picture, random_rule
from tests.slow import STANDERS
from tests.test_tables import DAY, random_rounds

NO_STRINGS = [
    None, True, False, 0, 1, 12, b"", b"|h|", [], ["|h|"], ("|h|",), (), {}, {"|h|": 1}, Word("", "h", ""), KNOWN,
    Picture([(0, 0, "h")]), Table([DAY]),
]
SPOILT = ["", " ", "\n", "|", "h", "x", "0", "-", "h h", "\nh", "|h|\n"]


def text_by_hand(rounds):
    return "".join(" ".join(f"{home}-{away}" for home, away in sorted(meetings)) + "\n" for meetings in rounds)


class TextCase(Refusing, unittest.TestCase):
    def wrong(self, read, text, line=1):
        self.refused(InvalidText, line, read, text)

    def changed(self, text):
        """Texts with one character put in, left out, or another one in its place."""
        for at in range(len(text) + 1):
            for mark in " -+0123456789ha|@=\noxp":
                yield text[:at] + mark + text[at:]
                yield text[:at] + mark + text[at + 1:]
            yield text[:at] + text[at + 1:]


class TestWords(TextCase):
    def test_each_word(self):
        for parts in WORDS:
            self.assertEqual(read_word("|".join(parts)), Word(*parts))
        self.assertEqual(str(read_word(text="ha|a|h")), "ha|a|h")

    def test_refused(self):
        for text in NO_STRINGS:
            self.wrong(read_word, text, None)
        for text in SPOILT[:-1] + ["||", "h||h", "|h", "h|", "h|h", "|h||", "h|h|h|h", "hhhhh|h|", "|hhhhh|",
                                   "|h|hhhhh",
                                   "|H|", "|x|", " |h|", "|h| ", "| h|", "|h |", "h |h|", "|h|\n", "\n|h|", "|h|h\n",
                                   "ha/a/h", "|h|" * 6000]:
            self.wrong(read_word, text)

    def test_each_change(self):
        told = {str(Word(*parts)) for parts in WORDS}
        for text in ("ha|a|h", "|h|", "hhhh|aaaa|haha"):
            for other in self.changed(text):
                if other in told:
                    self.assertEqual(str(read_word(other)), other)
                else:
                    self.wrong(read_word, other)


class TestRules(TextCase):
    def test_taken_back(self):
        random = Random(611)
        for _ in range(300):
            rule = random_rule(random)
            self.assertEqual(read_rule(str(rule)), rule)
        for step in STEPS:
            for stander in STANDERS:
                for turned, word in ((False, "plain"), (True, "turned")):
                    self.assertEqual(read_rule(f"{step} |ha| {stander} {word}"),
                                     Rule(step, Word("", "ha", ""), stander, turned))
        self.assertEqual(repr(read_rule(text="-3 ha|a|h even plain")), "Rule(-3, Word('ha', 'a', 'h'), 'even', False)")

    def test_refused(self):
        for text in NO_STRINGS:
            self.wrong(read_rule, text, None)
        for text in SPOILT + ["0 |ha| even plain", "8 |ha| even plain", "-8 |ha| even plain", "+1 |ha| even plain",
                              "-0 |ha| even plain", "01 |ha| even plain", "-01 |ha| even plain", "1.0 |ha| even plain",
                              "11 |ha| even plain", "- 1 |ha| even plain", "1  |ha| even plain", " 1 |ha| even plain",
                              "1 |ha| even plain ", "1 |ha| even plain\n", "1 |ha| even\nplain", "1 |ha|  even plain",
                              "1 |ha| even", "1 |ha| plain", "1 |ha| even plain plain", "1 |ha| Even plain",
                              "1 |ha| even Plain", "1 |ha| even False", "1 |ha| h plain", "1 || even plain",
                              "1 ha even plain", "1 |hahah| even plain", "1 |ha|| even plain", "|ha| 1 even plain",
                              "1 |ha| plain even", "1 |ha| even turned plain", "1 |ha| even  plain",
                              "x |ha| even plain",
                              "1_0 |ha| even plain", "1" * 5000 + " |ha| even plain"]:
            self.wrong(read_rule, text)

    def test_each_change(self):
        for text in ("1 |ha| even plain", "-3 ha|a|h odd turned"):
            for other in self.changed(text):
                try:
                    self.assertEqual(str(read_rule(other)), other)
                except InvalidText as error:
                    self.assertEqual(error.line, 1)
                    # The rest may be right only if a step or a word is other marks.
                    self.assertNotEqual(other, text)
            self.assertEqual(str(read_rule(text)), text)
            self.assertEqual(str(read_rule(text.replace("a|", "h|"))), text.replace("a|", "h|"))


class TestPictures(TextCase):
    def test_taken_back(self):
        random = Random(612)
        for _ in range(500):
            picture = random_picture(random, *random.choice(((5, 3), (1, 1), (0, 3))))
            self.assertEqual(read_picture(str(picture)), picture)
            self.assertEqual(read_picture(str(picture)).cells, picture.cells)
        for team in range(-5, 6):
            for later in range(4):
                for mark in "ha":
                    cells = sorted({(team, later, mark), (5 - abs(team), 0, mark)})
                    if len({cell[:2] for cell in cells}) == len(cells):
                        self.assertEqual(read_picture(str(Picture(cells))), Picture(cells))
        self.assertEqual(read_picture(text="-2@1=h 0@0=a"), Picture([(0, 0, "a"), (-2, 1, "h")]))

    def test_five_and_six_cells(self):
        five = "-5@0=h -4@0=a 0@0=h 0@1=a 0@2=h"
        self.assertEqual(len(read_picture(five).cells), 5)
        self.wrong(read_picture, five + " 0@3=h")
        self.wrong(read_picture, five + " 0@3=h 1@0=h 2@0=h")

    def test_refused(self):
        for text in NO_STRINGS:
            self.wrong(read_picture, text, None)
        for text in SPOILT + ["0@0=a -2@1=h", "0@0=h 0@0=h", "0@0=h 0@0=a", "0@0=a 0@0=h", "0@1=h", "1@2=h 2@1=a",
                              "-0@0=h", "+1@0=h", "01@0=h", "-01@0=h", "1@00=h", "1@+0=h", "1@-0=h", "6@0=h", "-6@0=h",
                              "0@0=h 0@4=h", "0@0=h 0@-1=h", "0@0=H", "0@0=", "0@0=ha", "0@=h", "@0=h", "0@0 =h",
                              " 0@0=h", "0@0=h ", "0@0=h  1@0=h", "0@0=h\n", "0@0=h\n1@0=h", "0@0=h,1@0=h", "0@0@0=h",
                              "0@0=h=h", "0=0@h", "00=h", "0@0h", "0@0==h", "0@0=h" * 2000, "1.0@0=h", "10@0=h",
                              "0@0=h 1@0=h 1@0=a", "0@0=None", "None@0=h", "2@0=h 10@0=h"]:
            self.wrong(read_picture, text)

    def test_each_change(self):
        for text in ("-2@1=h 0@0=a", "0@0=h", "-5@3=a -5@0=h 5@3=h 5@0=a".replace("-5@3=a -5@0=h", "-5@0=h -5@3=a")):
            for other in self.changed(text):
                try:
                    self.assertEqual(str(read_picture(other)), other)
                except InvalidText as error:
                    self.assertEqual(error.line, 1)


class TestTables(TextCase):
    def test_taken_back(self):
        random = Random(613)
        for size, many in ((4, 1), (4, 60), (6, 7), (10, 9), (12, 40), (22, 3), (24, 60)):
            rounds = random_rounds(random, size, many)
            text = table_text(Table(rounds))
            self.assertEqual(text, text_by_hand(rounds))
            self.assertEqual(read_table(text), Table(rounds))
        for _ in range(40):
            rule = random_rule(random)
            table = table_of(rule, random.randrange(rule.least_size, 26, 2))
            self.assertEqual(read_table(table_text(table)), table)
        self.assertEqual(table_text(table=table_of(KNOWN, 4)), "1-2 3-0\n1-3 2-0\n0-1 3-2\n")
        self.assertEqual(read_table(text="0-3 2-1\n").rounds(), [[(0, 3), (2, 1)]])

    def test_sorted_by_numbers(self):
        text = table_text(Table([[(10, 0), (2, 11), (9, 1), (3, 4), (5, 6), (7, 8)]]))
        self.assertEqual(text, "2-11 3-4 5-6 7-8 9-1 10-0\n")
        self.assertEqual(table_text(read_table(text)), text)
        self.wrong(read_table, "10-0 2-11 3-4 5-6 7-8 9-1\n")

    def test_no_strings_and_no_lines(self):
        for text in NO_STRINGS + [table_of(KNOWN, 4), table_of(KNOWN, 4).rounds()]:
            self.wrong(read_table, text, None)
        self.wrong(read_table, "", 1)

    def test_one_spoilt_line(self):
        spoilt = ["", " ", "-", "0-3", "0-3  2-1", " 0-3 2-1", "0-3 2-1 ", "2-1 0-3", "0-3 2-3", "0-3 1-4", "0-3 0-3",
                  "0-3 2-1 2-4", "00-3 2-1", "0-03 2-1", "0-3 2-+1", "0-3 +2-1", "0-3 2--1", "-0-3 2-1", "0-3 2-1-",
                  "0:3 2:1",
                  "0-3,2-1", "0 - 3 2-1", "0-3 2-", "0-3 -1", "0-3 2", "0-3 21", "0-3 x-1", "h", "0-5 4-1 3-2",
                  "0-0 1-2",
                  "0-3 2-1 2-1", "(0, 3) (2, 1)", "0-3 2-1\r", "0-3\t2-1", "0-3 2-24", "0-3 2-" + "1" * 5000, "1-2 4-3"]
        good = "0-3 2-1\n"
        for wrong in spoilt:
            for ahead in (0, 1, 5, 59):
                self.wrong(read_table, good * ahead + wrong + "\n" + good * 3, ahead + 1)
                self.wrong(read_table, good * ahead + wrong + "\n", ahead + 1)
                self.wrong(read_table, good * ahead + wrong + "\n" + wrong, ahead + 1)
                if wrong != "":
                    self.wrong(read_table, good * ahead + wrong, ahead + 1)

    def test_without_a_line_feed(self):
        self.wrong(read_table, "0-3 2-1", 1)
        self.wrong(read_table, "0-3 2-1\n0-3 2-1", 2)
        self.wrong(read_table, "0-3 2-1\n0-3 1-1\n0-3 2-1", 2)
        self.wrong(read_table, "0-3 2-1\n\n", 2)
        self.wrong(read_table, "\n", 1)
        self.wrong(read_table, "\n0-3 2-1\n", 1)
        self.wrong(read_table, "0-3 2-1\n \n", 2)

    def test_another_size(self):
        four, six = "0-3 2-1\n", "0-3 2-1 4-5\n"
        self.wrong(read_table, four + six, 2)
        self.wrong(read_table, six + six + four + six, 3)
        self.wrong(read_table, "0-1\n", 1)
        self.wrong(read_table, " ".join(f"{k}-{k + 13}" for k in range(13)) + "\n", 1)
        self.assertEqual(read_table(" ".join(f"{k}-{k + 12}" for k in range(12)) + "\n").size, 24)

    def test_sixty_rounds(self):
        good = "0-3 2-1\n"
        self.assertEqual(len(read_table(good * 60)), 60)
        self.wrong(read_table, good * 61, 61)
        self.wrong(read_table, good * 60 + "0-3 2-1", 61)
        self.wrong(read_table, good * 60 + "x", 61)
        self.wrong(read_table, good * 60 + "\n", 61)
        self.wrong(read_table, good * 80, 61)
        self.wrong(read_table, good * 58 + "x\n" + good * 10, 59)

    def test_each_change(self):
        text = "0-3 2-1\n1-3 2-0\n"
        for other in self.changed(text):
            try:
                self.assertEqual(table_text(read_table(other)), other)
            except InvalidText as error:
                self.assertIn(error.line, (1, 2, 3))


if __name__ == "__main__":
    unittest.main()
