"""[13]: stretches pressed by each way, and the shortest one."""

import itertools
import unittest

from pillarstore.byterows import cell_bytes, number_bytes
from pillarstore.pressing import press_by, pressed
from tests.support import STRETCHES, TOP


def packed_by_hand(numbers, wide):
    """Packed numbers by another road: one whole number, cut into bytes."""
    whole = sum(number << (wide * k) for k, number in enumerate(numbers))
    return list(whole.to_bytes((wide * len(numbers) + 7) // 8, "little"))


def least_wide(numbers):
    wide = 0
    while any(number >= 2 ** wide for number in numbers):
        wide += 1
    return wide


def pressed_by_hand(way, cells):
    """press_by as the document words it, only slower."""
    row = [way] + number_bytes(len(cells))
    if way == 0:
        return row + [byte for cell in cells for byte in cell_bytes(cell)]
    if way == 1:
        runs = [(cell, len(list(group))) for cell, group in itertools.groupby(cells)]
        return row + number_bytes(len(runs)) + [b for c, n in runs for b in cell_bytes(c) + number_bytes(n)]
    if way == 2:
        book = sorted(set(cells), key=lambda cell: (cell is not None, cell))
        places = [book.index(cell) for cell in cells]
        written = [byte for cell in book for byte in cell_bytes(cell)]
        return row + number_bytes(len(book)) + written + packed_by_hand(places, least_wide([len(book) - 1]))
    if any(not isinstance(cell, int) for cell in cells):
        return None
    if way == 3:
        above = [cell - min(cells) for cell in cells]
        row += number_bytes(min(cells))
    else:
        steps = [cells[k + 1] - cells[k] for k in range(len(cells) - 1)]
        above = [step - min(steps) for step in steps]
        row += number_bytes(cells[0]) + number_bytes(min(steps) if steps else 0)
    return row + [least_wide(above)] + packed_by_hand(above, least_wide(above))


class PressByTest(unittest.TestCase):
    def test_rows_by_hand(self):
        told = [
            (0, [5, None, 5], [0, 6, 1, 10, 0, 1, 10]),
            (0, ["$&"], [0, 2, 2, 4, 4, 5]),
            (1, [5, 5, None, 5], [1, 8, 6, 1, 10, 4, 0, 2, 1, 10, 2]),
            (1, [""], [1, 2, 2, 2, 0, 2]),
            (2, [5, None, 7, 5], [2, 8, 6, 0, 1, 10, 1, 14, 97]),
            (2, ["a", "a"], [2, 4, 2, 2, 2, 64]),
            (2, [9, -9], [2, 4, 4, 1, 17, 1, 18, 1]),
            (3, [5, 7, 5], [3, 6, 10, 2, 8]),
            (3, [5], [3, 2, 10, 0]),
            (3, [-4, -4], [3, 4, 7, 0]),
            (3, [255, 0], [3, 4, 0, 8, 255, 0]),
            (4, [5, 7, 6], [4, 6, 10, 1, 2, 3]),
            (4, [5], [4, 2, 10, 0, 0]),
            (4, [9, 7, 5, 3], [4, 8, 18, 3, 0]),
            (4, [0, 1, 0], [4, 6, 0, 1, 2, 2]),
        ]
        for way, cells, row in told:
            with self.subTest(way=way, cells=cells):
                self.assertEqual(press_by(way, cells), row)
                self.assertEqual(press_by(way, tuple(cells)), row)

    def test_each_way_of_each_stretch(self):
        for cells in STRETCHES:
            for way in range(5):
                self.assertEqual(press_by(way, cells), pressed_by_hand(way, cells), (way, cells))
                self.assertEqual(press_by(way, tuple(cells)), pressed_by_hand(way, cells), (way, cells))

    def test_a_book_of_sixty_four_unlike_cells(self):
        row = press_by(2, list(range(64)))
        self.assertEqual(row[:5], [2, 128, 1, 128, 1])
        self.assertEqual(len(row), 5 + 2 * 64 + 64 * 6 // 8)

    def test_wides_of_books(self):
        for unlike, wide in ((1, 0), (2, 1), (3, 2), (16, 4), (17, 5), (33, 6), (64, 6)):
            cells = [k % unlike for k in range(64)]
            book = sum(len(cell_bytes(cell)) for cell in range(unlike))
            self.assertEqual(len(press_by(2, cells)), 3 + len(number_bytes(unlike)) + book + 8 * wide)

    def test_the_widest_steps_need_sixty_two_bits(self):
        row = press_by(4, [TOP, -TOP, TOP])
        start = [4, 6] + number_bytes(TOP) + number_bytes(-2 * TOP)
        self.assertEqual(row, start + [62] + packed_by_hand([0, 4 * TOP], 62))
        self.assertEqual(press_by(3, [-TOP, TOP])[11], 61)

    def test_none_where_a_cell_is_no_number(self):
        for cells in ([None], ["a"], [5, None], [None, 5], ["a", None], [""], [1] * 63 + [None]):
            for way in (3, 4):
                self.assertIsNone(press_by(way, cells))
            for way in (0, 1, 2):
                self.assertIsInstance(press_by(way, cells), list)


    def test_somewhat_beyond_the_bounds_is_no_error(self):
        for cells in (list(range(70)), [10 ** 20, -(10 ** 20)], ["a" * 25, None]):
            for way in range(5):
                self.assertEqual(press_by(way, cells), pressed_by_hand(way, cells))
        self.assertEqual(pressed([]), [0, 0])
        for way in (-1, 5, 6):
            self.assertIsNone(press_by(way, [5, 6]))


class PressedTest(unittest.TestCase):
    def test_the_shortest_the_first_ways_of_several(self):
        for cells in STRETCHES:
            rows = [pressed_by_hand(way, cells) for way in range(5)]
            shortest = min((row for row in rows if row is not None), key=len)
            self.assertEqual(pressed(cells), shortest, cells)
            self.assertEqual(pressed(tuple(cells)), shortest, cells)

    def test_each_way_is_the_shortest_of_some(self):
        chosen = [
            (0, ["ab", "c"]), (1, ["a"] * 32 + ["b"] * 32), (2, ["a", "b"] * 32),
            (3, [3, 1, 4, 1, 5, 9, 2, 6]), (4, list(range(0, 6400, 100))),
        ]
        for way, cells in chosen:
            self.assertEqual(pressed(cells)[0], way, cells)

    def test_of_equally_short_ones_the_first_ways(self):
        chosen = [
            ((0, 2), [None, None]), ((0, 3), [5]), ((0, 4), [1000000, 64]), ((0, 2, 4), [0, 0, 1000000]),
            ((1, 2), ["a"] * 5 + ["b"] * 5), ((2, 3), [64, 0, 0, 0, 0]), ((2, 4), [0, 1000000, 1000000]),
            ((2, 3, 4), [0, 0, 0, 0, 64]), ((3, 4), [0, 1]),
        ]
        for ways, cells in chosen:
            rows = [row for row in [press_by(way, cells) for way in range(5)] if row is not None]
            least = min(len(row) for row in rows)
            self.assertEqual(tuple(row[0] for row in rows if len(row) == least), ways)
            self.assertEqual(pressed(cells), press_by(ways[0], cells))


class HandedInTest(unittest.TestCase):
    def test_cells_stay_and_told_rows_are_the_askers_own(self):
        for cells in ([3, 1, 3], [None, "a"], [5]):
            before = list(cells)
            for ask in [lambda way=way: press_by(way, cells) for way in range(5)] + [lambda: pressed(cells)]:
                told = ask()
                if told is not None:
                    kept = list(told)
                    told.clear()
                    self.assertEqual(ask(), kept)
            self.assertEqual(cells, before)


if __name__ == "__main__":
    unittest.main()
