"""[4]: the signs, kinds and order of cells."""

import unittest

from pillarstore.cells import SIGNS, kind_of, unlike_cells, within_bounds


class CellsTest(unittest.TestCase):
    def test_signs_from_the_blank_on_without_the_percent_sign(self):
        self.assertEqual(SIGNS, "".join(chr(code) for code in range(32, 127) if code != 37))

    def test_kinds(self):
        self.assertIsNone(kind_of(None))
        for number in (0, -5, 10 ** 18 - 1, 10 ** 40):
            self.assertEqual(kind_of(number), "number")
        for text in ("", "number", " "):
            self.assertEqual(kind_of(text), "text")

    def test_bounds(self):
        for cell in (None, 0, 10 ** 18 - 1, 1 - 10 ** 18, "", "x" * 20):
            self.assertTrue(within_bounds(cell), cell)
        for beyond in (10 ** 18, -(10 ** 18), 10 ** 40, "x" * 21, "x" * 99):
            self.assertFalse(within_bounds(beyond), beyond)

    def test_order_open_ones_first_then_rising(self):
        self.assertEqual(unlike_cells([3, None, -4, 3, 10, None]), [None, -4, 3, 10])
        self.assertEqual(unlike_cells(("b", "10", None, "9", "B", "", "b")), [None, "", "10", "9", "B", "b"])
        self.assertEqual(unlike_cells([2, 1]), [1, 2])
        self.assertEqual(unlike_cells([None, None]), [None])
        self.assertEqual(unlike_cells([]), [])

    def test_the_cells_handed_in_stay(self):
        cells = [2, None, 1, 2]
        unlike_cells(cells).append(7)
        self.assertEqual(cells, [2, None, 1, 2])
        self.assertEqual(unlike_cells(cells), [None, 1, 2])


if __name__ == "__main__":
    unittest.main()
