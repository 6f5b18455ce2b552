"""[4]: the signs, kinds and order of cells."""

import unittest

from pillarstore.cells import SIGNS, fits, is_cell, is_whole, kind_of, unlike_cells, within_bounds


class CellsTest(unittest.TestCase):
    def test_signs_from_the_blank_on_without_the_percent_sign(self):
        self.assertEqual(SIGNS, "".join(chr(code) for code in range(32, 127) if code != 37))

    def test_kinds(self):
        self.assertIsNone(kind_of(None))
        for number in (0, -5, 10 ** 18 - 1, 10 ** 40):
            self.assertEqual(kind_of(number), "number")
        for text in ("", "number", " "):
            self.assertEqual(kind_of(text), "text")

    def test_bounds(self):
        for cell in (None, 0, 10 ** 18 - 1, 1 - 10 ** 18, "", "x" * 20):
            self.assertTrue(within_bounds(cell), cell)
        for beyond in (10 ** 18, -(10 ** 18), 10 ** 40, "x" * 21, "x" * 99):
            self.assertFalse(within_bounds(beyond), beyond)

    def test_what_is_a_cell(self):
        for cell in (None, 0, -5, 10 ** 18 - 1, 1 - 10 ** 18, "", " ", "x" * 20, "~$&'"):
            self.assertTrue(is_cell(cell), cell)
        unknown_signs = ("a%", "\n", "\x1f", "\x7f", "\xe9")
        for thing in (*unknown_signs, 10 ** 18, -(10 ** 18), True, False, "x" * 21, 1.0, (1,), [], {}, b"a"):
            self.assertFalse(is_cell(thing), thing)
            self.assertFalse(fits(thing, "number"), thing)
            self.assertFalse(fits(thing, "text"), thing)

    def test_what_fits_a_kind(self):
        for kind, cells, others in (("number", (0, 10 ** 18 - 1), ("", "5")), ("text", ("", "5"), (0, -7))):
            self.assertEqual([fits(cell, kind) for cell in (None, *cells)], [True] * 3)
            self.assertEqual([fits(cell, kind) for cell in others], [False] * 2)

    def test_whole_numbers(self):
        self.assertEqual([is_whole(thing) for thing in (0, -1, 10 ** 40)], [True] * 3)
        self.assertEqual([is_whole(thing) for thing in (True, False, None, "1", 1.0, (1,))], [False] * 6)

    def test_order_open_ones_first_then_rising(self):
        self.assertEqual(unlike_cells([3, None, -4, 3, 10, None]), [None, -4, 3, 10])
        self.assertEqual(unlike_cells(("b", "10", None, "9", "B", "", "b")), [None, "", "10", "9", "B", "b"])
        self.assertEqual(unlike_cells([2, 1]), [1, 2])
        self.assertEqual(unlike_cells([None, None]), [None])
        self.assertEqual(unlike_cells([]), [])

    def test_the_cells_handed_in_stay(self):
        cells = [2, None, 1, 2]
        unlike_cells(cells).append(7)
        self.assertEqual(cells, [2, None, 1, 2])
        self.assertEqual(unlike_cells(cells), [None, 1, 2])


if __name__ == "__main__":
    unittest.main()
