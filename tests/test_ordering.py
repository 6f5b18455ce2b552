"""[4] and [42]: the order of cells, and of rows by items."""

import functools
import itertools
import unittest

from pillarstore.ordering import in_order, order_key, stands_ahead

ROWS = [(a, b, k) for k, (a, b) in enumerate(itertools.product((None, 3, -1, 10), ("b", None, "a", "10")))] * 2


def by_hand(row, other, items):
    """-1, 0 or 1, written out otherwise than in the program."""
    for place, down in items:
        one, two = row[place], other[place]
        if one == two:
            continue
        ahead = one is None or (two is not None and one < two)
        return 1 if ahead == down else -1
    return 0


class OrderTest(unittest.TestCase):
    def test_open_cells_first_then_rising(self):
        self.assertEqual(sorted([3, None, -4, 10, None], key=order_key), [None, None, -4, 3, 10])
        self.assertEqual(sorted(["b", None, "10", "9", "B", ""], key=order_key), [None, "", "10", "9", "B", "b"])

    def test_items(self):
        singles = [(place, down) for place in (0, 1) for down in (True, False)]
        for items in [[]] + [[item] for item in singles] + [list(two) for two in itertools.product(singles, singles)]:
            expected = sorted(ROWS, key=functools.cmp_to_key(lambda row, other: by_hand(row, other, items)))
            self.assertEqual(in_order(ROWS, items), expected)
            self.assertEqual(in_order(tuple(ROWS), tuple(list(item) for item in items)), expected)
            for row, other in itertools.product(ROWS, ROWS):
                self.assertIs(stands_ahead(row, other, items), by_hand(row, other, items) < 0)

    def test_the_rows_stay(self):
        rows = [(2,), (1,)]
        for items in ([], [(0, False)]):
            in_order(rows, items).append(9)
            self.assertEqual(rows, [(2,), (1,)])


if __name__ == "__main__":
    unittest.main()
