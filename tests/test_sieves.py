"""[25] and [26]: sieves, and rows picked by their masks."""

import copy
import itertools
import unittest

from pillarstore.pillars import Pillar
from pillarstore.rowtests import row_meets
from pillarstore.sieves import picked, sieved

ALWAYS = ("always",)
NEVER = ("not", ALWAYS)

# In stretches of two: 0 is all known, 1 has one open cell in stretch 1, 2 is all open in stretch 0, 3 has texts.
COLUMNS = (
    [1, 2, 3, 4, 5],
    [1, 1, None, 4, 9],
    [None, None, 3, 7, 5],
    ["a", "b", "b", None, "c"],
)


class ReadPillar(Pillar):
    """A Pillar that tells which stretches were really asked for."""

    def __init__(self, long, cells):
        super().__init__(long, cells)
        self.asked = []

    def stretch(self, s):
        self.asked.append(s)
        return super().stretch(s)

    def cell(self, k):
        raise AssertionError("a sieve reads by stretches")


def pillars_of(long, columns=COLUMNS):
    return [ReadPillar(long, cells) for cells in columns]


def asked_of(pillars):
    return sorted((place, s) for place, pillar in enumerate(pillars) for s in pillar.asked)


def at_least(place, value):
    return ("cell", place, (">=", value))


class SievedCase(unittest.TestCase):
    def check(self, long, test, mask, reads, columns=COLUMNS):
        pillars = pillars_of(long, columns)
        self.assertEqual(sieved(pillars, test), (mask, reads), test)
        self.assertEqual(asked_of(pillars), sorted(reads), test)
        self.assertEqual(sieved(tuple(pillars), test), (mask, reads), test)


class SievedTest(SievedCase):
    def test_always_reads_nothing(self):
        for long in (1, 2, 3, 5, 64):
            self.check(long, ALWAYS, [1] * 5, [])
            self.check(long, NEVER, [0] * 5, [])
            self.check(long, ("not", NEVER), [1] * 5, [])

    def test_a_cell_is_read_only_where_the_note_tells_some(self):
        self.check(2, ("cell", 0, ("=", 3)), [0, 0, 1, 0, 0], [(0, 1)])
        self.check(2, ("cell", 0, (">", 2)), [0, 0, 1, 1, 1], [])
        self.check(2, ("cell", 0, (">=", 2)), [0, 1, 1, 1, 1], [(0, 0)])
        self.check(2, ("cell", 0, ("<", 2)), [1, 0, 0, 0, 0], [(0, 0)])
        self.check(2, ("cell", 0, ("<=", 2)), [1, 1, 0, 0, 0], [])
        self.check(2, ("cell", 0, ("<>", 2)), [1, 0, 1, 1, 1], [(0, 0)])
        self.check(2, ("cell", 1, ("<>", 1)), [0, 0, 0, 1, 1], [(1, 1)])
        self.check(2, ("cell", 3, ("=", "b")), [0, 1, 1, 0, 0], [(3, 0), (3, 1)])
        self.check(2, ("cell", 3, ("=", "c")), [0, 0, 0, 0, 1], [])

    def test_open_and_among(self):
        self.check(2, ("cell", 0, ("open",)), [0] * 5, [])
        self.check(2, ("cell", 1, ("open",)), [0, 0, 1, 0, 0], [(1, 1)])
        self.check(2, ("cell", 2, ("open",)), [1, 1, 0, 0, 0], [])
        self.check(2, ("cell", 2, ("<>", 4)), [0, 0, 1, 1, 1], [(2, 1)])
        self.check(2, ("cell", 0, ("among", [])), [0] * 5, [])
        self.check(2, ("cell", 0, ("among", [4, 9, 5])), [0, 0, 0, 1, 1], [(0, 1)])
        self.check(2, ("cell", 0, ("among", (0, 6))), [0] * 5, [])
        self.check(2, ("cell", 1, ("among", [1])), [1, 1, 0, 0, 0], [])
        self.check(1, ("cell", 3, ("among", ["b", "c"])), [0, 1, 1, 0, 1], [])

    def test_cells_are_both_read_in_order(self):
        self.check(2, ("cells", 0, "=", 1), [1, 0, 0, 1, 0], [(0, 0), (1, 0), (0, 1), (1, 1), (0, 2), (1, 2)])
        self.check(2, ("cells", 1, ">", 0), [0, 0, 0, 0, 1], [(1, 0), (0, 0), (1, 1), (0, 1), (1, 2), (0, 2)])
        self.check(5, ("cells", 2, ">", 0), [0, 0, 0, 1, 0], [(2, 0), (0, 0)])

    def test_cells_with_a_stretch_that_is_all_open_reads_nothing_there(self):
        self.check(2, ("cells", 2, "=", 0), [0, 0, 1, 0, 1], [(2, 1), (0, 1), (2, 2), (0, 2)])
        self.check(2, ("cells", 0, "<>", 2), [0, 0, 0, 1, 0], [(0, 1), (2, 1), (0, 2), (2, 2)])
        self.check(1, ("cells", 1, "<", 2), [0, 0, 0, 1, 0], [(1, 3), (2, 3), (1, 4), (2, 4)])
        self.check(2, ("not", ("cells", 2, "=", 2)), [1, 1, 0, 0, 0], [(2, 1), (2, 2)])

    def test_cells_of_one_place_read_it_once(self):
        self.check(2, ("cells", 0, "=", 0), [1] * 5, [(0, 0), (0, 1), (0, 2)])
        self.check(2, ("cells", 1, "<", 1), [0] * 5, [(1, 0), (1, 1), (1, 2)])

    def test_both_reads_the_second_only_where_the_first_has_a_one(self):
        second = ("cells", 2, "=", 0)
        self.check(2, ("both", at_least(0, 3), second), [0, 0, 1, 0, 1], [(2, 1), (0, 1), (2, 2), (0, 2)])
        self.check(2, ("both", at_least(0, 5), second), [0, 0, 0, 0, 1], [(2, 2), (0, 2)])
        self.check(2, ("both", NEVER, second), [0] * 5, [])
        self.check(2, ("both", at_least(0, 4), ("cell", 3, ("open",))), [0, 0, 0, 1, 0], [(0, 1), (3, 1)])
        self.check(2, ("both", ("cell", 0, ("=", 2)), ("cell", 3, ("=", "a"))), [0] * 5, [(0, 0), (3, 0)])
        self.check(2, ("both", second, NEVER), [0] * 5, [(2, 1), (0, 1), (2, 2), (0, 2)])

    def test_either_reads_the_second_only_where_the_first_has_a_nought(self):
        second = ("cells", 0, "=", 1)
        self.check(2, ("either", at_least(0, 3), second), [1, 0, 1, 1, 1], [(0, 0), (1, 0)])
        self.check(2, ("either", ("cell", 0, ("<=", 2)), second), [1, 1, 0, 1, 0], [(0, 1), (1, 1), (0, 2), (1, 2)])
        self.check(2, ("either", ALWAYS, second), [1] * 5, [])
        self.check(2, ("either", at_least(1, 4), ("cell", 3, ("=", "b"))), [0, 1, 1, 1, 1], [(3, 0), (1, 1), (3, 1)])
        self.check(2, ("either", second, ALWAYS), [1] * 5, [(p, s) for s in range(3) for p in (0, 1)])

    def test_not_of_what_is_read_and_of_what_is_not(self):
        self.check(2, ("not", ("cell", 1, ("=", 4))), [1, 1, 1, 0, 1], [(1, 1)])
        self.check(2, ("both", ("not", at_least(0, 3)), ("cell", 3, ("=", "a"))), [1, 0, 0, 0, 0], [(3, 0)])
        self.check(2, ("either", ("not", at_least(0, 3)), ("cell", 3, ("=", "c"))), [1, 1, 0, 0, 1], [])

    def test_a_place_is_not_read_again_in_a_stretch(self):
        test = ("both", ("cell", 0, ("<>", 2)), ("either", ("cells", 1, "=", 0), ("cell", 0, ("=", 3))))
        self.check(5, test, [1, 0, 1, 1, 0], [(0, 0), (1, 0)])
        test = ("either", ("cells", 1, "=", 0), ("both", ("cell", 1, ("open",)), ("cell", 0, ("=", 3))))
        self.check(5, test, [1, 0, 1, 1, 0], [(1, 0), (0, 0)])
        self.check(2, test, [1, 0, 1, 1, 0], [(1, 0), (0, 0), (1, 1), (0, 1), (1, 2), (0, 2)])

    def test_what_was_read_does_not_stand_in_for_the_next_stretch(self):
        columns = ([1, 2, 1, 2, 1],)
        self.check(2, ("cell", 0, ("=", 1)), [1, 0, 1, 0, 1], [(0, 0), (0, 1)], columns)

    def test_no_cells(self):
        for test in (ALWAYS, NEVER, ("cell", 0, ("=", 5)), ("both", ("cells", 0, "=", 1), ALWAYS)):
            self.check(3, test, [], [], ([], []))

    def test_one_stretch_of_sixty_four_and_a_shorter_one(self):
        column = list(range(70))
        mask = [0] * 60 + [1] * 10
        self.check(64, at_least(0, 60), mask, [(0, 0)], (column,))
        self.check(64, at_least(0, 66), [0] * 66 + [1] * 4, [(0, 1)], (column,))
        self.check(1, at_least(0, 60), mask, [], (column,))


def many_tests():
    """Tests of rows within one another, over COLUMNS."""
    plain = [ALWAYS, ("cell", 2, ("open",)), ("cell", 3, ("<>", "b")), ("cell", 1, ("among", [4, 1]))]
    plain += [("cell", 0, (sign, 3)) for sign in ("=", "<>", "<", "<=", ">", ">=")]
    plain += [("cells", 0, "<=", 2), ("cells", 1, "<>", 0), ("cells", 3, "=", 3)]
    joined = [(word, one, other) for word in ("both", "either") for one, other in itertools.product(plain, plain)]
    deeper = [("not", test) for test in joined[::3]]
    deeper += [("both", ("not", one), ("either", other, one)) for one, other in zip(joined[::5], joined[1::4])]
    return plain + joined + deeper


class EachTest(SievedCase):
    def test_the_mask_is_of_the_rows_that_meet_and_no_read_is_told_twice(self):
        rows = list(zip(*COLUMNS))
        for test in many_tests():
            mask = [int(row_meets(row, test)) for row in rows]
            for long in (1, 2, 3, 4, 5, 64):
                pillars = pillars_of(long)
                told, reads = sieved(pillars, test)
                self.assertEqual(told, mask, (long, test))
                self.assertEqual(len(reads), len(set(reads)))
                self.assertEqual(asked_of(pillars), sorted(reads))
                self.assertEqual([s for _place, s in reads], sorted(s for _place, s in reads))


class PickedTest(unittest.TestCase):
    def check(self, long, mask, places, rows, reads):
        pillars = pillars_of(long)
        self.assertEqual(picked(pillars, mask, places), (rows, reads))
        self.assertEqual(asked_of(pillars), sorted(reads))
        self.assertEqual(picked(tuple(pillars), tuple(mask), tuple(places)), (rows, reads))
        self.assertTrue(all(isinstance(row, tuple) for row in picked(pillars, mask, places)[0]))

    def test_noughts_read_nothing(self):
        for long in (1, 2, 5, 64):
            self.check(long, [0] * 5, [0, 1, 2, 3], [], [])

    def test_ones(self):
        rows = [(1, None), (2, None), (3, 3), (4, 7), (5, 5)]
        self.check(2, [1] * 5, [0, 2], rows, [(0, 0), (2, 0), (0, 1), (2, 1), (0, 2), (2, 2)])
        self.check(64, [1] * 5, [0, 2], rows, [(0, 0), (2, 0)])

    def test_mixed_only_stretches_with_a_one_are_read(self):
        self.check(2, [0, 0, 1, 0, 1], [0], [(3,), (5,)], [(0, 1), (0, 2)])
        self.check(2, [0, 1, 0, 0, 0], [3, 1], [("b", 1)], [(3, 0), (1, 0)])
        self.check(1, [1, 0, 0, 1, 0], [1], [(1,), (4,)], [(1, 0), (1, 3)])
        self.check(2, [0, 0, 0, 0, 1], [1], [(9,)], [(1, 2)])

    def test_places_in_any_order_and_twice(self):
        self.check(2, [1, 0, 0, 1, 0], [3, 0, 3], [("a", 1, "a"), (None, 4, None)], [(3, 0), (0, 0), (3, 1), (0, 1)])
        self.check(5, [0, 0, 0, 0, 1], [2, 2], [(5, 5)], [(2, 0)])
        self.check(5, [0, 0, 0, 0, 1], [3, 2, 1, 0], [("c", 5, 9, 5)], [(3, 0), (2, 0), (1, 0), (0, 0)])

    def test_no_places(self):
        self.check(2, [1, 0, 0, 1, 1], [], [(), (), ()], [])
        self.check(2, [0] * 5, [], [], [])

    def test_no_cells(self):
        pillars = pillars_of(3, ([], []))
        self.assertEqual(picked(pillars, [], [0, 1]), ([], []))

    def test_each_mask(self):
        rows = list(zip(*COLUMNS))
        for mask in itertools.product((0, 1), repeat=5):
            for long in (1, 2, 3, 64):
                told, reads = picked(pillars_of(long), list(mask), [2, 0])
                self.assertEqual(told, [(row[2], row[0]) for row, bit in zip(rows, mask) if bit])
                stretches = sorted({k // long for k in range(5) if mask[k]})
                self.assertEqual(reads, [(place, s) for s in stretches for place in (2, 0)])


class OwnTest(unittest.TestCase):
    def test_what_is_handed_in_stays(self):
        pillars, mask, places = pillars_of(2), [0, 1, 1, 0, 1], [3, 0]
        handed = list(pillars)
        test = ("either", ("cell", 0, ("among", [4, 1])), ("not", ("cells", 0, "=", 1)))
        before = copy.deepcopy(test)
        sieved(pillars, test)
        picked(pillars, mask, places)
        self.assertEqual((pillars, mask, places, test), (handed, [0, 1, 1, 0, 1], [3, 0], before))

    def test_what_is_told_is_the_askers_own(self):
        pillars = pillars_of(2)
        test = ("cell", 0, ("=", 3))
        for _turn in range(2):
            mask, reads = sieved(pillars, test)
            self.assertEqual((mask, reads), ([0, 0, 1, 0, 0], [(0, 1)]))
            rows, picks = picked(pillars, mask, [0])
            self.assertEqual((rows, picks), ([(3,)], [(0, 1)]))
            for told in (mask, reads, rows, picks):
                told.append(9)
        self.assertEqual(pillars[0].rows(), pillars_of(2)[0].rows())

    def test_no_pillars_are_no_error(self):
        self.assertEqual(sieved([], ALWAYS), ([], []))
        self.assertEqual(picked([], [], []), ([], []))

    def test_pairs_are_tuples(self):
        told = sieved(pillars_of(2), ("cells", 0, "=", 1))
        self.assertIsInstance(told, tuple)
        self.assertTrue(all(isinstance(pair, tuple) for pair in told[1]))
        self.assertIsInstance(picked(pillars_of(2), [1] * 5, [0]), tuple)


if __name__ == "__main__":
    unittest.main()
