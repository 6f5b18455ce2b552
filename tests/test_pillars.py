"""[23]: a column's cells by stretches."""

import unittest

from pillarstore.celltests import note_of
from pillarstore.errors import NoRow
from pillarstore.pillars import Pillar
from pillarstore.pressing import pressed
from tests.support import HUGE

COLUMNS = {
    "numbers": [(k * 7919) % 1000 - 500 for k in range(301)],
    "rising": list(range(10 ** 17, 10 ** 17 + 300)),
    "with open": [None if k % 5 == 0 else k // 3 for k in range(301)],
    "texts": ["" if k % 7 == 0 else f"t{k % 11}" for k in range(301)],
    "open": [None] * 130,
}
LONGS = (1, 2, 7, 63, 64)


def lengths(long):
    return (0, 1, long - 1, long, long + 1, 2 * long, 2 * long + 1, 301)


class PillarTest(unittest.TestCase):
    def each(self):
        """Pillars of columns of many lengths, with their stretches."""
        for cells in COLUMNS.values():
            for long in LONGS:
                for many in lengths(long):
                    taken = cells[:many]
                    yield Pillar(long, taken), taken, [taken[at:at + long] for at in range(0, len(taken), long)]

    def test_many_rows_and_notes(self):
        for pillar, cells, stretches in self.each():
            self.assertEqual(pillar.many(), len(cells))
            self.assertEqual(pillar.rows(), [pressed(stretch) for stretch in stretches])
            self.assertEqual(pillar.notes(), [note_of(stretch) for stretch in stretches])
            self.assertTrue(all(isinstance(note, tuple) for note in pillar.notes()))

    def test_stretches_and_cells(self):
        for pillar, cells, stretches in self.each():
            self.assertEqual([pillar.stretch(s) for s in range(len(stretches))], stretches)
            self.assertEqual([pillar.cell(k) for k in range(len(cells))], cells)

    def test_no_row(self):
        for pillar, cells, stretches in self.each():
            for s in (-1, -len(stretches) - 1, len(stretches), len(stretches) + 1, 1000, HUGE):
                with self.assertRaises(NoRow):
                    pillar.stretch(s)
            for k in (-1, -len(cells) - 1, len(cells), len(cells) + 1, len(stretches) * 64 + 64, -HUGE):
                with self.assertRaises(NoRow):
                    pillar.cell(k)
            self.assertEqual(pillar.many(), len(cells))

    def test_of_no_cells(self):
        for none in ([], ()):
            pillar = Pillar(3, none)
            self.assertEqual((pillar.many(), pillar.rows(), pillar.notes()), (0, [], []))

    def test_by_hand(self):
        pillar = Pillar(2, [5, None, 7])
        self.assertEqual(pillar.rows(), [[0, 4, 1, 10, 0], [0, 2, 1, 14]])
        self.assertEqual(pillar.notes(), [(2, 1, 5, 5), (1, 0, 7, 7)])
        self.assertEqual((pillar.stretch(0), pillar.stretch(1)), ([5, None], [7]))

    def test_cells_as_a_tuple(self):
        one, other = Pillar(3, [4, None, 4, 9]), Pillar(3, (4, None, 4, 9))
        self.assertEqual(one.rows(), other.rows())
        self.assertEqual(other.stretch(0), [4, None, 4])



class BeyondTest(unittest.TestCase):
    """Cells and longs somewhat beyond the bounds are no error, and are told as they were handed in."""

    BEYOND = (
        ["x" * 21, "y", "x" * 21], ["x" * 25, None, "ab", "x" * 25], ["y"] * 4 + ["x" * 400], ["x" * 21] * 9,
        [10 ** 18, 5, -(10 ** 18)], [10 ** 30, 5], [5, 10 ** 30], [None, -(10 ** 30), 4, None], [10 ** 100, 0, 3],
        [10 ** 18 + k for k in range(9)], [10 ** 40] * 9, [k * 10 ** 25 for k in range(-4, 5)],
    )

    def assert_told(self, long, span, cells):
        pillar = Pillar(long, cells)
        stretches = [cells[at:at + span] for at in range(0, len(cells), span)]
        self.assertEqual(pillar.many(), len(cells))
        self.assertEqual(pillar.rows(), [pressed(stretch) for stretch in stretches])
        self.assertEqual(pillar.notes(), [note_of(stretch) for stretch in stretches])
        self.assertEqual([pillar.stretch(s) for s in range(len(stretches))], stretches)
        self.assertEqual([pillar.cell(k) for k in range(len(cells))], cells)

    def test_cells(self):
        for cells in self.BEYOND:
            for long in (1, 2, 3, 64):
                self.assert_told(long, long, cells)

    def test_no_row(self):
        for cells in self.BEYOND:
            pillar = Pillar(2, cells)
            for ask, k in ((pillar.stretch, -1), (pillar.stretch, 9), (pillar.cell, -1), (pillar.cell, len(cells))):
                with self.assertRaises(NoRow):
                    ask(k)

    def test_longs(self):
        for cells in list(COLUMNS.values()) + [self.BEYOND[1]]:
            for long, span in ((65, 65), (66, 66), (100, 100), (1000, 1000), (0, 1), (-1, 1)):
                self.assert_told(long, span, cells)

    def test_such_cells_are_not_kept_and_not_given_away(self):
        cells = ["x" * 21, None]
        pillar = Pillar(2, cells)
        cells.clear()
        pillar.stretch(0).clear()
        self.assertEqual(pillar.stretch(0), ["x" * 21, None])
        self.assertEqual(pillar.cell(0), "x" * 21)


class OwnTest(unittest.TestCase):
    def test_what_is_handed_in_stays_and_is_not_kept(self):
        cells = [5, None, 7]
        pillar = Pillar(2, cells)
        self.assertEqual(cells, [5, None, 7])
        cells[0] = 6
        cells.append(8)
        self.assertEqual(pillar.many(), 3)
        self.assertEqual(pillar.stretch(0), [5, None])
        self.assertEqual(pillar.cell(0), 5)
        self.assertEqual(pillar.notes(), [(2, 1, 5, 5), (1, 0, 7, 7)])

    def test_what_is_told_is_the_askers_own(self):
        pillar = Pillar(2, [5, None, 7])
        rows = pillar.rows()
        rows[0].append(9)
        rows[1].clear()
        rows.pop()
        pillar.notes().clear()
        pillar.stretch(0).append(4)
        self.assertEqual(pillar.rows(), [[0, 4, 1, 10, 0], [0, 2, 1, 14]])
        self.assertEqual(pillar.notes(), [(2, 1, 5, 5), (1, 0, 7, 7)])
        self.assertEqual(pillar.stretch(0), [5, None])
        self.assertEqual((pillar.cell(0), pillar.cell(1), pillar.cell(2)), (5, None, 7))

    def test_no_two_told_lists_are_one(self):
        pillar = Pillar(1, [5, 5])
        first, second = pillar.rows()
        self.assertEqual(first, second)
        self.assertIsNot(first, second)
        self.assertIsNot(pillar.rows()[0], pillar.rows()[0])


if __name__ == "__main__":
    unittest.main()
