"""[35]: askings."""

import copy
import random
import unittest

from pillarstore.askings import Asking
from pillarstore.errors import NoMoment
from pillarstore.heaps import Heap
from pillarstore.rowtests import row_meets
from pillarstore.sieves import picked, sieved
from pillarstore.tables import Table
from tests.plaintable import KINDS, TESTS, PlainTable, some_deed, some_rows

ALWAYS = ("always",)


def rows_left(asking):
    """All rows that are still to come, with a None and another one behind them."""
    rows = []
    while (row := asking.next()) is not None:
        rows.append(row)
    assert asking.next() is None
    return rows


def two_greater(test):
    """The test of a heap's pillars of a test of columns."""
    if test[0] == "cell":
        return ("cell", test[1] + 2, test[2])
    if test[0] == "cells":
        return ("cells", test[1] + 2, test[2], test[3] + 2)
    return (test[0],) + tuple(two_greater(inner) for inner in test[1:])


def expected_reads(table, moment, test, places):
    """The reads by sieved and picked of each heap, by stretches."""
    gone = [number for number, marked in table.marks() if marked <= moment]
    inner = ("both", ("not", ("cell", 0, ("among", gone))), two_greater(test))
    reads = []
    for at, row in enumerate(table.heaps()):
        pillars = Heap(row).pillars()
        mask, sieve = sieved(pillars, ("both", ("cell", 1, ("<=", moment)), inner))
        _rows, pick = picked(pillars, mask, [place + 2 for place in places])
        for s in range(len(pillars[0].notes())):
            there = [place for place, stretch in sieve if stretch == s]
            there += [place for place, stretch in pick if stretch == s and place not in there]
            reads += [(at, place, s) for place in there]
    return reads


def small_table():
    """Three heaps, long 2: numbers 0 to 4 born at 1, 5 and 6 at 2, 7 at 4; 1 and 5 are marked with 3."""
    table = Table(["number", "text"], 2)
    table.put([(1, "a"), (2, "b"), (3, "b"), (4, None), (5, "c")])
    table.put([(2, "d"), (7, "d")])
    table.take(("cell", 0, ("=", 2)))
    table.put([(9, "e")])
    return table


class TellTest(unittest.TestCase):
    def test_at_each_moment(self):
        table = small_table()
        firsts = [(1,), (2,), (3,), (4,), (5,)]
        for moment, rows in (
            (0, []), (1, firsts), (2, firsts + [(2,), (7,)]), (3, [(1,), (3,), (4,), (5,), (7,)]),
            (4, [(1,), (3,), (4,), (5,), (7,), (9,)]),
        ):
            self.assertEqual(rows_left(Asking(table, moment, ALWAYS, [0])), rows)

    def test_places_none_twice_and_in_any_order(self):
        table = small_table()
        test = ("cell", 0, (">=", 5))
        self.assertEqual(rows_left(Asking(table, 4, test, [])), [(), (), ()])
        self.assertEqual(rows_left(Asking(table, 4, test, (1, 0, 1))), [("c", 5, "c"), ("d", 7, "d"), ("e", 9, "e")])
        self.assertEqual(rows_left(Asking(table, 4, ("not", ALWAYS), [])), [])
        row = Asking(table, 4, test, [0, 0]).next()
        self.assertEqual(row, (5, 5))
        self.assertIsInstance(row, tuple)

    def test_none_again_and_again(self):
        for table, moment in ((small_table(), 1), (Table(["text"], 2), 0)):
            asking = Asking(table, moment, ("cell", 0, ("open",)), [0])
            rows_left(asking)
            reads = asking.reads()
            self.assertEqual([asking.next() for _turn in range(5)], [None] * 5)
            self.assertEqual(asking.reads(), reads)

    def test_no_moment(self):
        table = small_table()
        table.forget(2)
        for moment in (-1, 0, 1, 5, 100):
            with self.assertRaises(NoMoment):
                Asking(table, moment, ALWAYS, [0])
        self.assertEqual(len(rows_left(Asking(table, 2, ALWAYS, [0]))), 7)


class ReadsTest(unittest.TestCase):
    def test_nothing_is_read_ahead_of_the_first_next(self):
        self.assertEqual(Asking(small_table(), 4, ("cell", 0, (">", 2)), [0, 1]).reads(), [])

    def test_a_stretch_is_gone_through_when_no_row_is_left(self):
        asking = Asking(small_table(), 4, ALWAYS, [0])
        told = []
        for _turn in range(8):
            told.append((asking.next(), asking.reads()))
        first = [(0, 0, 0), (0, 2, 0)]
        second = first + [(0, 2, 1)]
        third = second + [(0, 2, 2)]
        fourth = third + [(1, 0, 0), (1, 2, 0)]
        fifth = fourth + [(2, 2, 0)]
        self.assertEqual(told, [
            ((1,), first), ((3,), second), ((4,), second), ((5,), third), ((7,), fourth), ((9,), fifth),
            (None, fifth), (None, fifth),
        ])

    def test_stretches_without_rows_are_gone_through_till_a_row_is_found(self):
        asking = Asking(small_table(), 4, ("cell", 1, ("=", "d")), [0])
        self.assertEqual(asking.next(), (7,))
        self.assertEqual(asking.reads(), [(0, 0, 0), (1, 0, 0), (1, 2, 0)])
        self.assertIsNone(asking.next())
        self.assertEqual(asking.reads(), [(0, 0, 0), (1, 0, 0), (1, 2, 0)])

    def test_what_the_sieve_read_is_not_read_to_pick(self):
        asking = Asking(small_table(), 2, ("cell", 0, ("<>", 3)), [1, 0])
        rows_left(asking)
        self.assertEqual(asking.reads(), [
            (0, 3, 0), (0, 2, 0), (0, 2, 1), (0, 3, 1), (0, 3, 2), (0, 2, 2), (1, 2, 0), (1, 3, 0),
        ])

    def test_borns_are_read_only_where_a_poured_stretch_has_several(self):
        table = Table(["number"], 2)
        for numbers in ([1], [2, 3], [4]):
            table.put([(number,) for number in numbers])
        table.pour(0, 2)
        for moment, reads in (
            (0, []), (1, [(0, 1, 0), (0, 2, 0)]), (2, [(0, 2, 0), (0, 1, 1), (0, 2, 1)]), (3, [(0, 2, 0), (0, 2, 1)]),
        ):
            asking = Asking(table, moment, ALWAYS, [0])
            rows_left(asking)
            self.assertEqual(asking.reads(), reads)

    def test_marks_behind_the_moment_are_not_looked_at(self):
        asking = Asking(small_table(), 2, ALWAYS, [])
        self.assertEqual(rows_left(asking), [()] * 7)
        self.assertEqual(asking.reads(), [])

    def test_a_heap_is_told_by_its_place(self):
        table = small_table()
        asking = Asking(table, 4, ("cell", 0, ("=", 9)), [0, 1])
        self.assertEqual(rows_left(asking), [(9, "e")])
        self.assertEqual(asking.reads()[-2:], [(2, 2, 0), (2, 3, 0)])


class ManyDeedsTest(unittest.TestCase):
    def test_rows_and_reads_behind_many_deeds(self):
        for seed in range(10):
            chance = random.Random(seed)
            table, plain = Table(KINDS, chance.choice([1, 2, 3, 64])), PlainTable(KINDS, 2)
            for _deed in range(15):
                deed, handed = some_deed(chance, plain)
                getattr(table, deed)(*handed)
                getattr(plain, deed)(*handed)
            for moment in range(plain.oldest, plain.now + 1):
                places = chance.choice([[], [0], [2, 0], [1, 1, 0], [0, 1, 2]])
                for test in TESTS:
                    asking = Asking(table, moment, test, places)
                    rows = [row for row in plain.rows_at(moment) if row_meets(row, test)]
                    self.assertEqual(rows_left(asking), [tuple(row[place] for place in places) for row in rows])
                    self.assertEqual(asking.reads(), expected_reads(table, moment, test, places))


class OwnTest(unittest.TestCase):
    def test_it_is_of_the_table_as_it_was(self):
        chance = random.Random(3)
        for _turn in range(10):
            table, plain = Table(KINDS, 2), PlainTable(KINDS, 2)
            for rows in (some_rows(chance, 5), some_rows(chance, 6)):
                table.put(rows)
                plain.put(rows)
            table.take(TESTS[3])
            plain.take(TESTS[3])
            for moment in (1, 2, 3):
                for ahead in (0, 1, 4):
                    self.check_behind_later_deeds(copy.deepcopy(table), plain.rows_at(moment), moment, ahead)

    def check_behind_later_deeds(self, table, rows, moment, ahead):
        asking = Asking(table, moment, ALWAYS, [2, 1, 0])
        reads = expected_reads(table, moment, ALWAYS, [2, 1, 0])
        told = [asking.next() for _turn in range(ahead)]
        table.put([(1, "a", 1)])
        table.take(ALWAYS)
        table.forget(table.now())
        table.pour(0, 2)
        table.put([(2, "b", 2)])
        told += rows_left(asking)
        expected = [row[::-1] for row in rows]
        self.assertEqual([row for row in told if row is not None], expected)
        self.assertEqual(asking.reads(), reads)
        self.assertEqual(table.rows_at(table.now()), [(2, "b", 2)])

    def test_what_is_handed_in_stays_and_is_not_kept(self):
        table = small_table()
        values, places = [3, 5], [1, 0]
        test = ("both", ALWAYS, ("not", ("not", ("cell", 0, ("among", values)))))
        asking = Asking(table, 4, test, places)
        self.assertEqual((values, places), ([3, 5], [1, 0]))
        values.clear()
        places.append(0)
        self.assertEqual(rows_left(asking), [("b", 3), ("c", 5)])

    def test_what_is_told_is_the_askers_own(self):
        asking = Asking(small_table(), 4, ALWAYS, [0])
        asking.next()
        asking.reads().clear()
        self.assertEqual(asking.reads(), [(0, 0, 0), (0, 2, 0)])
        told = asking.reads()
        rows_left(asking)
        self.assertEqual(told, [(0, 0, 0), (0, 2, 0)])

    def test_an_asking_changes_nothing_of_the_table(self):
        table = small_table()
        before = table.now(), table.heaps(), table.marks(), table.rows_at(4)
        rows_left(Asking(table, 3, ("cell", 0, ("<", 5)), [0]))
        self.assertEqual((table.now(), table.heaps(), table.marks(), table.rows_at(4)), before)

    def test_somewhat_beyond_the_bounds_is_no_error(self):
        table = Table(["number"] * 12, 80)
        table.put([tuple([k] * 12) for k in range(600)])
        test = ("cell", 11, ("among", [0, 599, 10 ** 20]))
        for _turn in range(15):
            test = ("both", ALWAYS, ("not", ("not", test)))
        self.assertEqual(rows_left(Asking(table, 1, test, [0])), [(0,), (599,)])


if __name__ == "__main__":
    unittest.main()
