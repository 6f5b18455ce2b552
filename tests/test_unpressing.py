"""[14] and [15]: pressed stretches read back, refused, and asked."""

import random
import unittest

from pillarstore.byterows import number_bytes, packed
from pillarstore.celltests import meets
from pillarstore.errors import BadBytes, NoRow
from pillarstore.pressing import press_by, pressed
from pillarstore.unpressing import cell_in, count_in, kept_in, unpressed
from tests.support import HUGE, STRETCHES, TOP, BytesCase

# Rows by each way, with the cells that they are of.
PRESSED = [(row, cells) for cells in STRETCHES for row in [press_by(w, cells) for w in range(5)] if row is not None]
EVERY_WHY = {"short", "long", "count", "sign", "kind", "way", "wide", "tail", "behind", "form"}
OVER = number_bytes(10 ** 18)
UNDER = number_bytes(-(10 ** 18))


class ThereAndBackTest(BytesCase):
    def test_the_cells_are_told(self):
        for row, cells in PRESSED:
            self.assertEqual(unpressed(row), cells)
            self.assertEqual(unpressed(tuple(row)), cells)
            self.assertIsInstance(unpressed(tuple(row)), list)

    def test_of_the_shortest(self):
        for cells in STRETCHES:
            self.assertEqual(unpressed(pressed(cells)), cells)

    def test_rows_by_hand(self):
        self.assertEqual(unpressed([2, 8, 6, 0, 1, 10, 1, 14, 97]), [5, None, 7, 5])
        self.assertEqual(unpressed([4, 6, 10, 1, 2, 3]), [5, 7, 6])


class RefusedTest(BytesCase):
    def refused(self, why, *rows):
        for row in rows:
            with self.subTest(row=row):
                self.assert_why(why, unpressed, row)
                self.assert_why(why, unpressed, tuple(row))

    def test_short_at_each_cut(self):
        self.refused("short", [])
        for row, _cells in PRESSED:
            for cut in range(len(row)):
                self.assert_why("short", unpressed, row[:cut])

    def test_way(self):
        self.refused("way", [5], [5, 2, 1, 10], [128], [255, 2, 1, 10])

    def test_long(self):
        for way in range(5):
            self.refused("long", [way, 130, 0, 1, 10], [way] + [255] * 9, [way, 255, 128, 0])
        self.refused("long", [0, 2, 1, 130, 0], [0, 2, 1] + [128] * 9, [0, 2, 2, 130, 0, 7])
        self.refused("long", [1, 2, 130, 0, 0, 2], [1, 2, 2, 1, 128, 0, 2], [1, 2, 2, 0, 130, 0])
        self.refused("long", [2, 2, 130, 0, 0], [2, 2, 2, 1, 128, 0], [2, 2, 2, 2, 130, 0, 7])
        self.refused("long", [3, 2, 128, 0, 0], [3, 2] + [255] * 9)
        self.refused("long", [4, 2, 128, 0, 0, 0], [4, 2, 10, 128, 0, 0], [4, 2, 10] + [128] * 9)

    def test_count_of_cells(self):
        for way in range(5):
            for many in (0, -1, -64, 65, 66, 10 ** 18):
                self.refused("count", [way] + number_bytes(many), [way] + number_bytes(many) + [0] * 99)
        self.refused("count", press_by(0, [None] * 65), press_by(3, [4] * 65), press_by(4, [4] * 65))

    def test_count_of_runs(self):
        for runs in (0, -1, 4, 10 ** 18):
            self.refused("count", [1, 6] + number_bytes(runs) + [0, 2] * 4, [1, 6] + number_bytes(runs))
        self.refused("count", [1, 2] + number_bytes(2) + [0, 2, 1, 0, 2])

    def test_count_of_a_run(self):
        for length in (0, -1, 4, 65):
            self.refused("count", [1, 6, 2, 0] + number_bytes(length))
            self.refused("count", [1, 6, 4, 1, 10, 4, 0] + number_bytes(length) + [9])

    def test_count_of_unlike_cells(self):
        for unlike in (0, -1, 4, 10 ** 18):
            self.refused("count", [2, 6] + number_bytes(unlike) + [0] * 9, [2, 6] + number_bytes(unlike))

    def test_count_of_signs(self):
        for start in ([0, 2], [1, 2, 2], [2, 2, 2]):
            self.refused("count", start + [2, 1], start + [2, 42] + [0] * 21, start + [2, 42])

    def test_sign_and_kind(self):
        for start in ([0, 2], [1, 2, 2], [2, 2, 2]):
            self.refused("sign", start + [2, 2, 94], start + [2, 4, 0, 255, 0])
            self.refused("kind", start + [3], start + [255, 0, 0])

    def test_wide(self):
        for start in ([3, 2, 10], [3, 4, 10], [4, 2, 10, 0], [4, 4, 10, 0]):
            for wide in (63, 64, 128, 255):
                self.refused("wide", start + [wide], start + [wide] + [0] * 99)

    def test_tail(self):
        self.refused("tail", [2, 4, 4, 0, 1, 10, 2 + 4], [2, 4, 4, 0, 1, 10, 2 + 128])
        self.refused("tail", [3, 6, 10, 2, 8 + 64], [3, 6, 10, 2, 8 + 128])
        self.refused("tail", [4, 6, 10, 1, 2, 3 + 16], [4, 6, 10, 1, 2, 3 + 128])

    def test_each_filling_bit_is_a_tail(self):
        for row, cells in PRESSED:
            many = {2: len(cells), 3: len(cells), 4: len(cells) - 1}.get(row[0], 0)
            wide = (len(set(cells)) - 1).bit_length() if row[0] == 2 else self.wide_of(row)
            for bit in range(many * wide % 8 or 8, 8):
                self.assert_why("tail", unpressed, row[:-1] + [row[-1] | 1 << bit])

    def wide_of(self, row):
        """The wide that a row by way 3 or 4 tells: it stands behind one number or two."""
        at = 1
        for _number in range({3: 2, 4: 3}.get(row[0], 0)):
            while row[at] >= 128:
                at += 1
            at += 1
        return row[at]

    def test_behind(self):
        for row, _cells in PRESSED:
            for more in ([0], [255], [1, 10], row):
                self.assert_why("behind", unpressed, row + more)

    def test_form_of_cells_one_by_one(self):
        self.refused("form", [0, 2, 1] + OVER, [0, 2, 1] + UNDER, [0, 4, 0, 1] + OVER)
        self.refused("form", [0, 4, 1, 10, 2, 0], [0, 4, 2, 0, 1, 10], [0, 6, 2, 0, 0, 1, 10])
        self.assertEqual(unpressed([0, 4, 1] + number_bytes(TOP) + [1] + number_bytes(-TOP)), [TOP, -TOP])

    def test_form_of_runs(self):
        more = [1, 6, 4, 1, 10, 4, 0, 4]
        fewer = [1, 6, 4, 1, 10, 2, 0, 2]
        one_too_few = [1, 6, 2, 1, 10, 4]
        like = [1, 6, 4, 1, 10, 2, 1, 10, 4]
        open_ones = [1, 4, 4, 0, 2, 0, 2]
        both_kinds = [1, 4, 4, 1, 10, 2, 2, 0, 2]
        self.refused("form", more, fewer, one_too_few, like, open_ones, both_kinds, [1, 2, 2, 1] + OVER + [2])
        self.assertEqual(unpressed([1, 6, 4, 1, 10, 4, 0, 2]), [5, 5, None])

    def test_form_of_a_book(self):
        falls = [2, 4, 4, 1, 12, 1, 10, 2]
        stays = [2, 4, 4, 1, 10, 1, 10, 2]
        open_behind = [2, 4, 4, 1, 10, 0, 2]
        open_twice = [2, 4, 4, 0, 0, 2]
        not_told = [2, 4, 4, 1, 10, 1, 12, 0]
        last_not_told = [2, 6, 6, 1, 10, 1, 12, 1, 14, 4]
        beyond = [2, 6, 6, 1, 10, 1, 12, 1, 14, 3 << 4 | 1 << 2]
        both_kinds = [2, 4, 4, 1, 10, 2, 0, 2]
        texts_fall = [2, 4, 4, 2, 2, 65, 2, 2, 64, 2]
        self.refused("form", falls, stays, open_behind, open_twice, not_told, last_not_told, beyond)
        self.refused("form", both_kinds, texts_fall, [2, 2, 2, 1] + OVER, [2, 4, 4, 1] + UNDER + [1, 10, 2])
        self.assertEqual(unpressed([2, 4, 4, 1, 10, 1, 12, 2]), [5, 6])
        self.assertEqual(unpressed([2, 6, 6, 1, 10, 1, 12, 1, 14, 2 << 4 | 1 << 2]), [5, 6, 7])

    def test_form_of_a_least(self):
        too_wide = [3, 4, 10, 2, 1 << 2]
        wide_of_nought = [3, 4, 10, 1, 0]
        not_the_least = [3, 4, 10, 2, 1 | 2 << 2]
        wide_without_need = [3, 2, 10, 8, 0]
        self.refused("form", too_wide, wide_of_nought, not_the_least, wide_without_need)
        self.refused("form", [3, 2] + OVER + [0], [3, 2] + UNDER + [0], [3, 4] + number_bytes(TOP) + [1, 2])
        self.assertEqual(unpressed([3, 4] + number_bytes(TOP - 1) + [1, 2]), [TOP - 1, TOP])
        self.refused("form", [3, 4, 0, 62] + packed([0, 10 ** 18], 62))

    def test_form_of_steps(self):
        too_wide = [4, 6, 10, 1, 3, 3]
        not_the_least = [4, 6, 10, 1, 2, 1 | 2 << 2]
        step_of_one_cell = [4, 2, 10, 2, 0]
        wide_of_one_cell = [4, 2, 10, 0, 1]
        wide_of_nought = [4, 4, 10, 2, 1, 0]
        self.refused("form", too_wide, not_the_least, step_of_one_cell, wide_of_one_cell, wide_of_nought)
        self.refused("form", [4, 2] + OVER + [0, 0], [4, 4] + number_bytes(TOP) + [2, 0])
        self.refused("form", [4, 6] + number_bytes(-TOP) + [1, 2, 8], [4, 6] + number_bytes(TOP) + [1, 2, 2])
        self.assertEqual(unpressed([4, 4] + number_bytes(TOP - 1) + [2, 0]), [TOP - 1, TOP])

    def test_of_two_faults_the_first_from_the_left(self):
        self.refused("way", [7], [7] + [255] * 9)
        self.refused("long", [0, 128, 0, 3], [1, 2] + [128] * 9 + [1])
        self.refused("count", [0, 0, 3], [0, 1], [1, 2, 4, 3], [1, 2, 2, 0, 4, 9, 9], [2, 2, 0, 3], [3, 0, 10, 63])
        self.refused("kind", [0, 4, 3], [0, 4, 3, 2, 2, 94], [1, 2, 2, 3, 0], [2, 4, 4, 3])
        self.refused("sign", [0, 4, 2, 4, 94], [0, 4, 2, 2, 94, 3])
        self.refused("wide", [3, 64, 10, 63], [4, 64, 10, 1, 99])
        self.refused("short", [3, 64, 10, 62], [3, 4, 10, 5, 255], [2, 8, 6, 0, 1, 10, 1, 14])
        self.refused("short", [0, 4, 1] + OVER, [1, 6, 4, 1, 10, 2, 1, 10])

    def test_behind_ahead_of_form(self):
        self.refused("behind", [0, 2, 1] + OVER + [0], [0, 4, 1, 10, 2, 0, 9], [1, 6, 4, 1, 10, 4, 0, 4, 0])
        self.refused("behind", [2, 4, 4, 1, 12, 1, 10, 2, 0], [3, 4, 10, 1, 0, 0], [4, 2, 10, 2, 0, 0])
        self.refused("behind", [2, 6, 6, 1, 10, 1, 12, 1, 14, 3 << 4, 7])

    def test_tail_ahead_of_behind_and_form(self):
        self.refused("tail", [2, 4, 4, 0, 1, 10, 6, 9], [2, 4, 4, 1, 12, 1, 10, 6], [3, 4, 10, 2, 64 + 4])
        self.refused("tail", [3, 6, 10, 2, 8 + 64, 1])


class AnyRowTest(BytesCase):
    """Of any row: refused with a why of the document's, or just press_by's of what it tells."""

    def check(self, row):
        try:
            cells = unpressed(row)
        except BadBytes as refusal:
            self.assertIn(refusal.why, EVERY_WHY)
            return
        self.assertTrue(1 <= len(cells) <= 64)
        self.assertEqual(press_by(row[0], cells), row)

    def test_rows_with_a_byte_changed(self):
        for row, _cells in PRESSED:
            if len(row) <= 40:
                for at in range(len(row)):
                    for byte in {0, 1, 127, 128, 255, row[at] ^ 1, (row[at] + 1) % 256, (row[at] + 255) % 256}:
                        self.check(row[:at] + [byte] + row[at + 1:])

    def test_rows_by_chance(self):
        chance = random.Random(14)
        for _row in range(20000):
            small = [chance.choice((0, 1, 2, 4, 6, 8, 10, 128, 255)) for _byte in range(chance.randrange(12))]
            self.check([chance.randrange(6)] + small)


class CountAndCellTest(unittest.TestCase):
    def test_count_in(self):
        for row, cells in PRESSED:
            self.assertEqual(count_in(row), len(cells))
            self.assertEqual(count_in(tuple(row)), len(cells))

    def test_each_cell(self):
        for row, cells in PRESSED:
            self.assertEqual([cell_in(row, k) for k in range(len(cells))], cells)
            self.assertEqual(cell_in(tuple(row), len(cells) - 1), cells[-1])

    def test_no_row(self):
        for row, cells in PRESSED:
            for k in (-1, -len(cells), len(cells), len(cells) + 1, 1000, -1000, HUGE):
                with self.assertRaises(NoRow):
                    cell_in(row, k)


class KeptTest(unittest.TestCase):
    def test_by_each_way(self):
        for cells, test, kept in [
            ([5, 5, None, 5, 7, 7], ("=", 5), [1, 1, 0, 1, 0, 0]),
            ([5, 5, None, 5, 7, 7], ("open",), [0, 0, 1, 0, 0, 0]),
            (["a", "b", "b", "a"], ("among", ("b", "c")), [0, 1, 1, 0]),
            ([3, 1, 3, 3], (">", 1), [1, 0, 1, 1]),
            ([3, 1, 3, 3], ("among", []), [0, 0, 0, 0]),
        ]:
            for way in range(5):
                row = press_by(way, cells)
                if row is not None:
                    self.assertEqual(kept_in(row, test)[0], kept)

    def test_how_many_are_asked(self):
        cells = [3, 3, 1, 1, 1, 3, 4, 4]
        told = [kept_in(press_by(way, cells), ("<", 4)) for way in range(5)]
        self.assertEqual([asked for _kept, asked in told], [8, 4, 3, 8, 8])
        self.assertEqual([kept for kept, _asked in told], [[1, 1, 1, 1, 1, 1, 0, 0]] * 5)
        cells = [None, None, "a", None]
        self.assertEqual([kept_in(press_by(way, cells), ("open",))[1] for way in range(3)], [4, 3, 2])

    def test_of_all_stretches(self):
        for row, cells in PRESSED:
            value = 7 if all(not isinstance(cell, str) for cell in cells) else "b"
            for test in [("open",), ("among", [value])] + [(s, value) for s in ("=", "<>", "<", "<=", ">", ">=")]:
                runs = 1 + sum(cells[k] != cells[k + 1] for k in range(len(cells) - 1))
                asked = {1: runs, 2: len(set(cells))}.get(row[0], len(cells))
                kept = [int(meets(cell, test)) for cell in cells]
                self.assertEqual(kept_in(row, test), (kept, asked))
                self.assertEqual(kept_in(tuple(row), test), (kept, asked))

    def test_kinds_of_what_is_told(self):
        told = kept_in(press_by(0, [5, None]), ("=", 5))
        self.assertIsInstance(told, tuple)
        self.assertIsInstance(told[0], list)
        self.assertEqual([repr(each) for each in told[0]], ["1", "0"])


class HandedInTest(BytesCase):
    def test_rows_and_tests_stay(self):
        values = [7, 5]
        for cells in ([5, 5, 7], [None, 7]):
            for row in [row for row in [press_by(way, cells) for way in range(5)] if row is not None]:
                before = list(row)
                unpressed(row).append(1)
                kept_in(row, ("among", values))[0].append(1)
                cell_in(row, 0)
                count_in(row)
                self.assertEqual(row, before)
                self.assertEqual(unpressed(row), cells)
                self.assertEqual(kept_in(row, ("among", values))[0], [int(cell in values) for cell in cells])
        self.assertEqual(values, [7, 5])

    def test_a_refused_row_stays(self):
        row = [1, 6, 4, 1, 10, 2, 1, 10, 4]
        self.assert_why("form", unpressed, row)
        self.assertEqual(row, [1, 6, 4, 1, 10, 2, 1, 10, 4])
        self.assert_why("form", unpressed, row)


if __name__ == "__main__":
    unittest.main()
