import unittest
from random import Random

from ringrows.errors import InvalidCells
from ringrows.pictures import Picture
from tests.made import KNOWN, Refusing, random_cells
from tests.slow import contrary

TWICE = [(0, 0, "h"), (0, 1, "h")]

NO_CELLS = [
    None, True, 0, "", "0@0=h", b"h", [], {}, (), (0,), (0, 0), (0, 0, "h", 1), [0, 0, "h"], ((0, 0, "h"),), KNOWN,
    (6, 0, "h"), (-6, 0, "h"), (10 ** 60, 0, "h"), (-10 ** 60, 0, "h"), (None, 0, "h"), (True, 0, "h"), (False, 0, "h"),
    ("0", 0, "h"), ([0], 0, "h"), ({}, 0, "h"), (0, 4, "h"), (0, -1, "h"), (0, 10 ** 60, "h"), (0, None, "h"),
    (0, True, "h"), (0, False, "h"), (0, "0", "h"), (0, [0], "h"), (0, (0,), "h"), (0, 0, ""), (0, 0, "x"), (0, 0, "H"),
    (0, 0, "ha"), (0, 0, "hh"), (0, 0, None), (0, 0, True), (0, 0, 1), (0, 0, b"h"), (0, 0, ["h"]), (0, 0, ("h",)),
    (0, 0, {"h": "a"}), (0, 0, []), ("h", 0, 0), (0, "h", 0),
]


class TestMade(Refusing, unittest.TestCase):
    def test_lists_and_tuples_in_any_sequence(self):
        random = Random(71)
        for _ in range(200):
            cells = random_cells(random)
            picture = Picture(cells)
            self.assertEqual(picture.cells, tuple(sorted(cells)))
            self.assertIs(picture.cells.__class__, tuple)
            self.assertEqual(picture.span, max(cell[1] for cell in cells))
            random.shuffle(cells)
            self.assertEqual(Picture(tuple(cells)), picture)
            self.assertEqual(Picture(cells=cells), picture)

    def test_edges(self):
        for team in range(-5, 6):
            for later in range(4):
                for mark in "ha":
                    cells = [(team, later, mark), (0 if team else 1, 0, "h")]
                    self.assertEqual((Picture(cells).cells, Picture(cells).span), (tuple(sorted(cells)), later))
        self.assertEqual((Picture([(3, 0, "a")]).cells, Picture([(3, 0, "a")]).span), (((3, 0, "a"),), 0))

    def test_what_was_passed_is_copied(self):
        cells = list(TWICE)
        picture = Picture(cells)
        cells.append((1, 0, "a"))
        cells[0] = (5, 0, "a")
        self.assertEqual((picture.cells, picture.span), (tuple(TWICE), 1))
        for name in ("cells", "span"):
            with self.assertRaises(AttributeError):
                setattr(picture, name, ())

    def test_no_list(self):
        for cells in (None, True, 0, "", "0@0=h", b"", {}, {(0, 0, "h"): 1}, [], (), KNOWN, Picture(TWICE)):
            self.refused(InvalidCells, None, Picture, cells)

    def test_first_wrong_cell(self):
        for wrong in NO_CELLS:
            self.refused(InvalidCells, 0, Picture, [wrong])
            self.refused(InvalidCells, 0, Picture, (wrong, (0, 0, "h"), wrong))
            self.refused(InvalidCells, 2, Picture, TWICE + [wrong])
            self.refused(InvalidCells, 1, Picture, ((1, 3, "h"), wrong, wrong))
            self.refused(InvalidCells, 6, Picture, [(k, 0, "a") for k in range(6)] + [wrong])

    def test_same_team_and_round(self):
        self.refused(InvalidCells, 1, Picture, [(0, 0, "h"), (0, 0, "h")])
        self.refused(InvalidCells, 1, Picture, [(0, 0, "h"), (0, 0, "a"), (0, 0, "x")])
        self.refused(InvalidCells, 3, Picture, [(0, 0, "h"), (0, 1, "h"), (1, 0, "h"), (0, 1, "a"), None])
        self.refused(InvalidCells, 2, Picture, ((-5, 3, "h"), (5, 3, "h"), (-5, 3, "h")))
        self.refused(InvalidCells, 5, Picture, [(k, 0, "h") for k in range(5)] + [(4, 0, "h")])

    def test_no_round_0(self):
        self.refused(InvalidCells, None, Picture, [(0, 1, "h")])
        self.refused(InvalidCells, None, Picture, [(0, 1, "h"), (0, 2, "a"), (3, 1, "h")])
        self.refused(InvalidCells, None, Picture, [(k, 3, "h") for k in range(6)])
        self.refused(InvalidCells, 1, Picture, [(0, 1, "h"), (0, 1, "h")])
        self.refused(InvalidCells, 1, Picture, [(0, 1, "h"), (0, 4, "h")])

    def test_five_cells(self):
        cells = [(team, 0, "h") for team in range(-5, 6)]
        self.assertEqual(len(Picture(cells[:5]).cells), 5)
        for many in range(6, 12):
            self.too_many("cells", 5, Picture, cells[:many])
        self.too_many("cells", 5, Picture, [(team, later, "a") for team in range(-5, 6) for later in range(4)])


class TestSame(unittest.TestCase):
    def test_contrary(self):
        random = Random(72)
        for _ in range(100):
            picture = Picture(random_cells(random))
            other = picture.contrary()
            self.assertEqual(other.cells, tuple((d, t, contrary(mark)) for d, t, mark in picture.cells))
            self.assertEqual(other.contrary(), picture)
            self.assertFalse(other == picture)
            self.assertEqual(other.span, picture.span)

    def test_equal(self):
        picture = Picture([(0, 1, "h"), (-2, 0, "a")])
        self.assertIs(picture == Picture(((-2, 0, "a"), (0, 1, "h"))), True)
        self.assertIs(picture != Picture(((-2, 0, "a"), (0, 1, "h"))), False)
        for other in (Picture([(0, 1, "h"), (-2, 0, "h")]), Picture([(0, 2, "h"), (-2, 0, "a")]),
                      Picture([(1, 1, "h"), (-2, 0, "a")]), Picture([(-2, 0, "a")]), picture.contrary(),
                      picture.cells, list(picture.cells), str(picture), repr(picture), None, 2, KNOWN):
            self.assertIs(picture == other, False)
            self.assertIs(other == picture, False)

    def test_texts(self):
        picture = Picture([(0, 0, "a"), (-2, 1, "h")])
        self.assertEqual((str(picture), repr(picture)), ("-2@1=h 0@0=a", "Picture([(-2, 1, 'h'), (0, 0, 'a')])"))
        self.assertEqual(repr(Picture(TWICE[::-1])), "Picture([(0, 0, 'h'), (0, 1, 'h')])")
        self.assertEqual((str(Picture([(5, 0, "a")])), repr(Picture([(5, 0, "a")]))),
                         ("5@0=a", "Picture([(5, 0, 'a')])"))
        random = Random(73)
        for _ in range(100):
            cells = random_cells(random)
            self.assertEqual(str(Picture(cells)), " ".join(f"{d}@{t}={mark}" for d, t, mark in sorted(cells)))
            self.assertEqual(repr(Picture(cells)), f"Picture({sorted(cells)})")
            self.assertEqual(eval(repr(Picture(cells))), Picture(cells))


if __name__ == "__main__":
    unittest.main()
