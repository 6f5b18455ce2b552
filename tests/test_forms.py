"""What is asked of forms beside their cells, for [57]."""

import unittest

from pillarstore.forms import over, places_of
from pillarstore.plainly import form_cell

CELL = ("cell", 3)
SUM = ("sum", "*", CELL, ("first", ("cell", 1), ("value", 7)))


class PlacesTest(unittest.TestCase):
    def test_places_rising_each_once(self):
        self.assertEqual(places_of([]), [])
        self.assertEqual(places_of([("value", 5), ("value", None)]), [])
        self.assertEqual(places_of([CELL, ("cell", 0), CELL]), [0, 3])
        self.assertEqual(places_of((SUM, ("cell", 2))), [1, 2, 3])
        self.assertEqual(places_of([("first", ("cell", 9), ("sum", "+", ("cell", 10), ("cell", 9)))]), [9, 10])


class OverTest(unittest.TestCase):
    def test_the_same_cell_of_fewer_cells(self):
        self.assertEqual(over(CELL, [3]), ("cell", 0))
        self.assertEqual(over(SUM, [1, 3]), ("sum", "*", ("cell", 1), ("first", ("cell", 0), ("value", 7))))
        for row in ((5, 6, 7, 8), (5, None, 7, 8), (5, 6, 7, None)):
            for form in (CELL, SUM, ("value", "a"), ("first", SUM, CELL)):
                self.assertEqual(form_cell((row[1], row[3]), over(form, [1, 3])), form_cell(row, form))


if __name__ == "__main__":
    unittest.main()
