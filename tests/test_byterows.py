"""[11] and [12]: numbers, texts, cells and packed numbers as rows of bytes."""

import copy
import unittest

from pillarstore.byterows import (
    bits_for, cell_bytes, number_bytes, packed, take_cell, take_number, take_packed, take_text, text_bytes,
)
from tests.support import BytesCase

NUMBER_ROWS = {
    0: [0], -1: [1], 1: [2], -2: [3],
    63: [126], -64: [127], 64: [128, 1], -65: [129, 1], 100: [200, 1],
    8191: [254, 127], -8192: [255, 127], 8192: [128, 128, 1], -8193: [129, 128, 1],
    2 ** 20 - 1: [254, 255, 127], -2 ** 20: [255, 255, 127], 2 ** 20: [128, 128, 128, 1],
    2 ** 62 - 1: [254] + [255] * 7 + [127], -2 ** 62: [255] * 8 + [127],
    2 ** 62: [128] * 9 + [1], -2 ** 62 - 1: [129] + [128] * 8 + [1],
}
LARGE = [999999999999999999, -999999999999999999, 123456789012345678]
HUGE = [10 ** 39 + 7, -(10 ** 39) - 7, 9876543210987654321098765432109876543210]
SIGNS = [chr(code) for code in range(32, 127) if chr(code) != "%"]
TEXT_ROWS = {
    "": [0], " ": [2, 0], "$": [2, 4], "&": [2, 5], "~": [2, 93], "$&": [4, 4, 5],
    "Ab 0": [8, 32, 65, 0, 15], "~" * 20: [40] + [93] * 20,
}


def by_hand(number):
    """number_bytes by another road: through the written bits."""
    folded = 2 * number if number >= 0 else -2 * number - 1
    bits = f"{folded:b}"
    bits = bits.zfill((len(bits) + 6) // 7 * 7)
    sevens = [int(bits[at:at + 7], 2) for at in range(0, len(bits), 7)][::-1]
    return [128 + seven for seven in sevens[:-1]] + sevens[-1:]


class NumberTest(BytesCase):
    def test_rows_of_numbers(self):
        for number, row in NUMBER_ROWS.items():
            with self.subTest(number):
                self.assertEqual(number_bytes(number), row)

    def test_numbers_of_any_size(self):
        for number in [*LARGE, *HUGE, 10 ** 3000, -(10 ** 3000), *range(-300, 300)]:
            self.assertEqual(number_bytes(number), by_hand(number))

    def test_take_tells_the_number_and_the_place_behind(self):
        for number in [*NUMBER_ROWS, *LARGE, *range(-20000, 20000, 37)]:
            row = number_bytes(number)
            if len(row) <= 9:
                self.assertEqual(take_number(row, 0), (number, len(row)))

    def test_take_in_the_middle_of_a_list_and_of_a_tuple(self):
        row = [200, 255] + number_bytes(-8193) + [0, 129]
        for handed in (row, tuple(row)):
            told = take_number(handed, 2)
            self.assertEqual(told, (-8193, 5))
            self.assertIsInstance(told, tuple)
            self.assertEqual(take_number(handed, 5), (0, 6))

    def test_nine_bytes_are_taken(self):
        self.assertEqual(take_number([254] + [255] * 7 + [127], 0), (2 ** 62 - 1, 9))
        self.assertEqual(take_number([255] * 8 + [127, 7], 0), (-2 ** 62, 9))
        self.assertEqual(take_number([128] * 8 + [1], 0), (2 ** 55, 9))

    def test_short_at_each_cut(self):
        self.assert_why("short", take_number, [], 0)
        for number in [0, 64, 8192, *LARGE]:
            row = number_bytes(number)
            self.assert_why("short", take_number, row, len(row))
            for cut in range(len(row)):
                self.assert_why("short", take_number, row[:cut], 0)
                self.assert_why("short", take_number, tuple([5] + row[:cut]), 1)

    def test_long(self):
        for row in ([128] * 9, [255] * 9, [128] * 9 + [1], [129] * 8 + [128], [128] * 20):
            self.assert_why("long", take_number, row, 0)
            self.assert_why("long", take_number, [7] + row, 1)
        for many in range(1, 9):
            self.assert_why("long", take_number, [129] * many + [0], 0)
            self.assert_why("long", take_number, [128] * many + [0, 0], 0)
        for number in HUGE:
            self.assert_why("long", take_number, number_bytes(number), 0)

    def test_eight_bytes_that_go_on_are_short(self):
        self.assert_why("short", take_number, [128] * 8, 0)


class TextTest(BytesCase):
    def test_rows_of_texts(self):
        for text, row in TEXT_ROWS.items():
            with self.subTest(text):
                self.assertEqual(text_bytes(text), row)
                self.assertEqual(take_text(row, 0), (text, len(row)))

    def test_each_sign_has_its_place_as_number(self):
        self.assertEqual(len(SIGNS), 94)
        for place, sign in enumerate(SIGNS):
            self.assertEqual(text_bytes(sign), [2, place])
            self.assertEqual(take_text([2, place], 0), (sign, 2))

    def test_take_in_the_middle(self):
        row = [9, 9] + text_bytes("ab") + text_bytes("") + text_bytes("c")
        for handed in (row, tuple(row)):
            self.assertEqual(take_text(handed, 2), ("ab", 5))
            self.assertEqual(take_text(handed, 5), ("", 6))
            self.assertEqual(take_text(handed, 6), ("c", 8))
            self.assert_why("short", take_text, handed, 8)

    def test_short_at_each_cut(self):
        for text in TEXT_ROWS:
            row = text_bytes(text)
            for cut in range(len(row)):
                self.assert_why("short", take_text, row[:cut], 0)

    def test_count(self):
        self.assert_why("count", take_text, number_bytes(-1) + [0] * 30, 0)
        self.assert_why("count", take_text, number_bytes(-64) + [0] * 30, 0)
        self.assert_why("count", take_text, number_bytes(21) + [0] * 30, 0)
        self.assert_why("count", take_text, text_bytes("a" * 21), 0)
        self.assert_why("count", take_text, number_bytes(10 ** 18), 0)

    def test_sign(self):
        for sign in (94, 127, 128, 255):
            self.assert_why("sign", take_text, [2, sign], 0)
            self.assert_why("sign", take_text, [4, 93, sign], 0)

    def test_of_two_faults_the_first_from_the_left(self):
        self.assert_why("long", take_text, [170, 0] + [0] * 20, 0)
        self.assert_why("count", take_text, number_bytes(21), 0)
        self.assert_why("count", take_text, number_bytes(-1) + [255], 0)
        self.assert_why("sign", take_text, [6, 0, 94], 0)
        self.assert_why("short", take_text, [6, 0], 0)
        self.assert_why("short", take_text, [129], 0)


class CellTest(BytesCase):
    CELLS = [None, 0, -1, 64, *LARGE, "", "a", "~" * 20, " $&~"]

    def test_rows_of_cells(self):
        self.assertEqual(cell_bytes(None), [0])
        self.assertEqual(cell_bytes(0), [1, 0])
        self.assertEqual(cell_bytes(64), [1, 128, 1])
        self.assertEqual(cell_bytes(""), [2, 0])
        self.assertEqual(cell_bytes("$&"), [2, 4, 4, 5])
        for number in [*LARGE, *HUGE]:
            self.assertEqual(cell_bytes(number), [1] + by_hand(number))

    def test_take_of_each(self):
        for cell in self.CELLS:
            row = cell_bytes(cell)
            self.assertEqual(take_cell(row, 0), (cell, len(row)))
            self.assertEqual(take_cell(tuple([7] + row + [7]), 1), (cell, len(row) + 1))

    def test_cells_one_behind_the_other(self):
        row = [byte for cell in self.CELLS for byte in cell_bytes(cell)]
        at, told = 0, []
        while at < len(row):
            cell, at = take_cell(row, at)
            told.append(cell)
        self.assertEqual(told, self.CELLS)
        self.assertEqual(at, len(row))

    def test_short_at_each_cut(self):
        for cell in self.CELLS:
            row = cell_bytes(cell)
            self.assert_why("short", take_cell, row, len(row))
            for cut in range(len(row)):
                self.assert_why("short", take_cell, row[:cut], 0)

    def test_kind(self):
        for kind in (3, 4, 128, 255):
            self.assert_why("kind", take_cell, [kind], 0)
            self.assert_why("kind", take_cell, [0, kind, 0, 0], 1)

    def test_refused_within(self):
        self.assert_why("long", take_cell, [1] + [255] * 9, 0)
        self.assert_why("long", take_cell, [1, 128, 0], 0)
        self.assert_why("long", take_cell, cell_bytes(HUGE[0]), 0)
        self.assert_why("long", take_cell, [2, 130, 0, 1], 0)
        self.assert_why("count", take_cell, [2, 1], 0)
        self.assert_why("count", take_cell, [2, 42] + [0] * 21, 0)
        self.assert_why("sign", take_cell, [2, 2, 94], 0)

    def test_of_two_faults_the_first_from_the_left(self):
        self.assert_why("kind", take_cell, [3] + [255] * 9, 0)
        self.assert_why("count", take_cell, [2, 3, 255], 0)
        self.assert_why("sign", take_cell, [2, 8, 1, 200], 0)


class PackedTest(BytesCase):
    def test_bits_for(self):
        told = {0: 0, 1: 1, 2: 2, 3: 2, 4: 3, 7: 3, 8: 4, 255: 8, 256: 9, 10 ** 18: 60}
        for number, bits in told.items():
            self.assertEqual(bits_for(number), bits)
        for wide in range(1, 70):
            self.assertEqual(bits_for(2 ** wide - 1), wide)
            self.assertEqual(bits_for(2 ** wide), wide + 1)

    def test_rows_by_hand(self):
        self.assertEqual(packed([], 7), [])
        self.assertEqual(packed([0, 0, 0], 0), [])
        self.assertEqual(packed([1], 1), [1])
        self.assertEqual(packed([1, 0, 1, 1], 1), [13])
        self.assertEqual(packed([0] * 8 + [1], 1), [0, 1])
        self.assertEqual(packed([1] * 8, 1), [255])
        self.assertEqual(packed([127, 1], 7), [255, 0])
        self.assertEqual(packed([1, 127], 7), [129, 63])
        self.assertEqual(packed([3, 255, 0], 8), [3, 255, 0])
        self.assertEqual(packed([256, 511], 9), [0, 255, 3])
        self.assertEqual(packed((5,), 3), [5])
        self.assertEqual(packed([2 ** 62 - 1], 62), [255] * 7 + [63])

    def test_there_and_back(self):
        for wide in (0, 1, 2, 3, 7, 8, 9, 31, 61, 62):
            top = 2 ** wide - 1
            for many in (0, 1, 2, 3, 7, 8, 9, 63, 64, 65, 400):
                numbers = [top * k // max(1, many - 1) for k in range(many)]
                row = packed(numbers, wide)
                self.assertEqual(len(row), -(-many * wide // 8))
                whole = sum(number << (k * wide) for k, number in enumerate(numbers))
                self.assertEqual(row, list(whole.to_bytes(len(row), "little")))
                for handed in ([9, 9] + row + [255], tuple([9, 9] + row + [255])):
                    self.assertEqual(take_packed(handed, 2, many, wide), (numbers, 2 + len(row)))
                self.assertEqual(take_packed(row, 0, many, wide), (numbers, len(row)))

    def test_take_of_nothing_at_the_end(self):
        self.assertEqual(take_packed([], 0, 0, 9), ([], 0))
        self.assertEqual(take_packed([4], 1, 3, 0), ([0, 0, 0], 1))

    def test_kinds_of_what_is_told(self):
        told = take_packed((5,), 0, 1, 8)
        self.assertIsInstance(told, tuple)
        self.assertIsInstance(told[0], list)

    def test_short(self):
        for wide in (1, 7, 8, 9, 62):
            for many in (1, 8, 9, 64):
                row = packed([1] * many, wide)
                for cut in range(len(row)):
                    self.assert_why("short", take_packed, row[:cut], 0, many, wide)
                    self.assert_why("short", take_packed, [0] + row[:cut], 1, many, wide)

    def test_tail(self):
        for wide, many in ((1, 1), (1, 7), (7, 1), (7, 3), (9, 1), (62, 1), (62, 3)):
            row = packed([0] * many, wide)
            for bit in range(8):
                filling = (len(row) - 1) * 8 + bit >= many * wide
                changed = row[:-1] + [1 << bit]
                if filling:
                    self.assert_why("tail", take_packed, changed, 0, many, wide)
                    self.assert_why("tail", take_packed, changed + [0], 0, many, wide)
                else:
                    self.assertNotEqual(take_packed(changed, 0, many, wide)[0], [0] * many)

    def test_short_ahead_of_tail(self):
        self.assert_why("short", take_packed, [255], 0, 9, 1)
        self.assert_why("short", take_packed, [255, 255], 0, 3, 7)


class HandedInTest(BytesCase):
    def test_what_is_handed_in_is_unchanged(self):
        row = [2, 4, 4, 5, 255, 1]
        before = copy.copy(row)
        for _again in range(2):
            self.assertEqual(take_cell(row, 0), ("$&", 4))
            self.assertEqual(take_text(row, 1), ("$&", 4))
            self.assertEqual(take_number(row, 4), (-128, 6))
            self.assertEqual(take_packed(row, 0, 2, 4), ([2, 0], 1))
            self.assert_why("tail", take_packed, row, 4, 1, 7)
            self.assertEqual(row, before)
        numbers = [1, 0, 1]
        packed(numbers, 1)
        self.assertEqual(numbers, [1, 0, 1])

    def test_lists_that_are_told_are_the_askers_own(self):
        asked = [
            lambda: number_bytes(0), lambda: number_bytes(8192), lambda: text_bytes("ab"),
            lambda: cell_bytes(None), lambda: cell_bytes(3), lambda: packed([1, 2], 4),
            lambda: packed([], 4), lambda: take_packed([33], 0, 2, 4)[0],
        ]
        for ask in asked:
            told = ask()
            kept = list(told)
            told.append(77)
            self.assertEqual(ask(), kept)


if __name__ == "__main__":
    unittest.main()
