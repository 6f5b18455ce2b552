"""[33] and [34]: tables and moments."""

import random
import unittest

from pillarstore.errors import BadRow, NoHeap, NoMoment
from pillarstore.heaps import Heap, heap_bytes
from pillarstore.tables import Table
from tests.plaintable import KINDS, TESTS, PlainTable, some_deed, some_rows
from tests.support import HUGE, TOP

ALWAYS = ("always",)
NEVER = ("not", ALWAYS)


def number_is(*numbers):
    return ("cell", 0, ("among", list(numbers)))


def told_by(table):
    """All that a table tells."""
    moments = range(table.oldest(), table.now() + 1)
    at = [(table.rows_at(moment), table.numbers_at(moment)) for moment in moments]
    return table.now(), table.oldest(), table.long(), table.kinds(), table.heaps(), table.marks(), at


def table_of(*puts):
    """A table of one column of numbers, long 2, behind some puts."""
    table = Table(["number"], 2)
    for numbers in puts:
        table.put([(number,) for number in numbers])
    return table


class TableCase(unittest.TestCase):
    def assert_entries(self, table, *heaps):
        """Its heaps are heap_bytes of these entries."""
        expected = [heap_bytes(table.kinds(), table.long(), entries) for entries in heaps]
        self.assertEqual(table.heaps(), expected)

    def assert_refused(self, table, error, deed, *handed):
        """The deed is refused and changes nothing; the error is told."""
        before = told_by(table)
        with self.assertRaises(error) as caught:
            deed(*handed)
        self.assertEqual(told_by(table), before)
        return caught.exception


class OwnCopyTest(TableCase):
    def test_neither_changes_the_other(self):
        chance = random.Random(9)
        table, plain = Table(KINDS, 2), PlainTable(KINDS, 2)
        for _turn in range(60):
            before = told_by(table)
            copied = table.own_copy()
            self.assertEqual((told_by(copied), copied.put([(1, "a", 1)])), (before, [plain.next]))
            copied.take(ALWAYS)
            copied.forget(copied.now())
            copied.pour(0, copied.heap_count() - 1)
            self.assertEqual(told_by(table), before)
            copied, (deed, handed) = table.own_copy(), some_deed(chance, plain)
            getattr(plain, deed)(*handed)
            getattr(table, deed)(*handed)
            self.assertEqual(told_by(copied), before)


class HeapRowTest(TableCase):
    def test_as_heaps(self):
        table = table_of([5], [6, 7], [8])
        self.assertEqual(table.heap_count(), 3)
        self.assertEqual([table.heap_row(at) for at in range(3)], table.heaps())
        self.assertEqual(table_of().heap_count(), 0)


class NewTest(TableCase):
    def test_a_table_without_rows(self):
        for kinds in (["number"], ("text", "number"), ["text"] * 8):
            for long in (1, 2, 64):
                expected = (0, 0, long, list(kinds), [], [], [([], [])])
                self.assertEqual(told_by(Table(kinds, long)), expected)


class PutTest(TableCase):
    def test_no_rows_begin_a_moment(self):
        table = table_of()
        self.assertEqual(table.put([]), [])
        self.assertEqual(table.put(()), [])
        self.assertEqual((table.now(), table.oldest(), table.heaps(), table.numbers_at(2)), (2, 0, [], []))

    def test_numbers_and_borns(self):
        table = table_of()
        self.assertEqual(table.put([(5,)]), [0])
        self.assertEqual(table.put([(6,), (None,), (5,)]), [1, 2, 3])
        table.put([])
        self.assertEqual(table.put([(7,)]), [4])
        self.assert_entries(table, [(0, 1, (5,))], [(1, 2, (6,)), (2, 2, (None,)), (3, 2, (5,))], [(4, 4, (7,))])

    def test_rows_as_lists_and_tuples(self):
        for rows in ([[5, "a"], (None, "b")], ([5, "a"], [None, "b"]), ((5, "a"), (None, "b"))):
            table = Table(["number", "text"], 64)
            table.put(rows)
            self.assertEqual(table.rows_at(1), [(5, "a"), (None, "b")])
            self.assertTrue(all(isinstance(row, tuple) for row in table.rows_at(1)))

    def test_all_cells_that_there_may_be(self):
        rows = [(TOP, "x" * 20), (-TOP, "~ $&"), (0, ""), (None, None)]
        table = Table(["number", "text"], 2)
        table.put(rows)
        self.assertEqual(table.rows_at(1), rows)

    def test_many_rows_of_many_columns(self):
        rows = [tuple(k * place % 17 for place in range(8)) for k in range(500)]
        table = Table(["number"] * 8, 64)
        self.assertEqual(table.put(rows), list(range(500)))
        self.assertEqual(table.rows_at(1), rows)

    def test_bad_rows(self):
        good = (5, "a")
        bad_rows = (
            (), (5,), (5, "a", None), [5], [5, "a", "b"], ("a", 5), ("a", "a"), (5, 5),
            (10 ** 18, "a"), (-(10 ** 18), "a"), (True, "a"), (False, "a"), (5, True), (5, "x" * 21),
            (5, "%"), (5, "a\n"), (5, "\x7f"), (5, "\xe9"), (5.0, "a"), ((5,), "a"), (5, ["a"]), (5, b"a"), (5, {}),
            None, 5, "ab", True, {5: "a", 6: "b"}, {5, "a"}, b"ab", object(),
        )
        table = Table(["number", "text"], 2)
        table.put([good])
        for bad in bad_rows:
            for place in (0, 1, 3):
                rows = [good] * place + [bad] + [good]
                self.assertEqual(self.assert_refused(table, BadRow, table.put, rows).place, place, bad)
            self.assertEqual(self.assert_refused(table, BadRow, table.put, (good, bad, None, bad)).place, 1)
        self.assertEqual(table.put([good]), [1])

    def test_a_bad_cell_in_each_column(self):
        table = Table(["number", "text", "number"], 2)
        for place in range(3):
            row = [1, "a", 2]
            row[place] = True
            self.assert_refused(table, BadRow, table.put, [row])


class TakeTest(TableCase):
    def test_the_rows_that_meet_are_marked_with_the_next_moment(self):
        table = table_of([5, 6], [7, None])
        self.assertEqual(table.take(number_is(6, 7)), [1, 2])
        self.assertEqual((table.now(), table.marks()), (3, [(1, 3), (2, 3)]))
        self.assertEqual(table.take(("cell", 0, ("open",))), [3])
        self.assertEqual(table.marks(), [(1, 3), (2, 3), (3, 4)])
        self.assertEqual([table.numbers_at(moment) for moment in range(5)], [[], [0, 1], [0, 1, 2, 3], [0, 3], [0]])

    def test_what_is_marked_is_not_marked_again(self):
        table = table_of([5, 6])
        table.take(number_is(6))
        self.assertEqual(table.take(ALWAYS), [0])
        self.assertEqual(table.take(ALWAYS), [])
        self.assertEqual((table.now(), table.marks()), (4, [(0, 3), (1, 2)]))

    def test_a_take_that_marks_none_begins_a_moment(self):
        table = table_of()
        self.assertEqual(table.take(ALWAYS), [])
        table.put([(5,)])
        self.assertEqual(table.take(NEVER), [])
        self.assertEqual((table.now(), table.marks(), table.numbers_at(3)), (3, [], [0]))

    def test_heaps_stay(self):
        table = table_of([5, 6], [7])
        before = table.heaps()
        table.take(number_is(5, 7))
        self.assertEqual(table.heaps(), before)

    def test_each_test(self):
        rows = some_rows(random.Random(5), 60)
        for test in TESTS:
            table, plain = Table(KINDS, 7), PlainTable(KINDS, 7)
            for at in (0, 30):
                table.put(rows[at:at + 30])
                plain.put(rows[at:at + 30])
            self.assertEqual(table.take(test), plain.take(test), test)
            self.assertEqual(table.marks(), sorted(plain.marks.items()))


class PourTest(TableCase):
    def test_one_heap_alone(self):
        table = table_of([5, 6], [7])
        before = told_by(table)
        self.assertEqual((table.pour(0, 0), table.pour(1, 1)), (0, 0))
        self.assertEqual(told_by(table), before)

    def test_several_become_one_in_their_place(self):
        table = table_of([5], [6, 7, 8], [9], [10])
        self.assertEqual(table.pour(1, 2), 0)
        self.assert_entries(
            table, [(0, 1, (5,))], [(1, 2, (6,)), (2, 2, (7,)), (3, 2, (8,)), (4, 3, (9,))], [(5, 4, (10,))],
        )
        self.assertEqual(table.pour(0, 2), 0)
        self.assertEqual(len(table.heaps()), 1)
        there = [table.numbers_at(moment) for moment in (1, 2, 3, 4)]
        self.assertEqual(there, [[0], [0, 1, 2, 3], [0, 1, 2, 3, 4], [0, 1, 2, 3, 4, 5]])
        self.assertEqual(table.now(), 4)

    def test_marks_above_the_oldest_keep_their_rows(self):
        table = table_of([5, 6, 7], [8])
        table.take(number_is(6))
        table.take(number_is(8))
        table.forget(2)
        self.assertEqual(table.pour(0, 1), 0)
        self.assertEqual(table.marks(), [(1, 3), (3, 4)])
        self.assertEqual([table.numbers_at(moment) for moment in (2, 3, 4)], [[0, 1, 2, 3], [0, 2, 3], [0, 2]])

    def test_marks_not_above_the_oldest_go_with_their_rows(self):
        table = table_of([5, 6, 7], [8])
        table.take(number_is(6))
        table.take(number_is(8))
        table.forget(3)
        self.assertEqual(table.pour(0, 1), 1)
        self.assertEqual(table.marks(), [(3, 4)])
        self.assert_entries(table, [(0, 1, (5,)), (2, 1, (7,)), (3, 2, (8,))])
        table.forget(4)
        self.assertEqual(table.pour(0, 0), 1)
        self.assertEqual((table.marks(), table.rows_at(4)), ([], [(5,), (7,)]))

    def test_marks_of_other_heaps_stay(self):
        table = table_of([5, 6], [7, 8])
        table.take(number_is(6, 7))
        table.forget(3)
        self.assertEqual(table.pour(1, 1), 1)
        self.assertEqual(table.marks(), [(1, 3)])
        self.assert_entries(table, [(0, 1, (5,)), (1, 1, (6,))], [(3, 2, (8,))])

    def test_heaps_that_become_none(self):
        table = table_of([5], [6, 7], [8])
        table.take(number_is(6, 7))
        table.forget(4)
        self.assertEqual(table.pour(1, 1), 2)
        self.assert_entries(table, [(0, 1, (5,))], [(3, 3, (8,))])
        table.take(ALWAYS)
        table.forget(5)
        self.assertEqual(table.pour(0, 1), 2)
        self.assertEqual((table.heaps(), table.marks(), table.rows_at(5)), ([], [], []))
        self.assert_refused(table, NoHeap, table.pour, 0, 0)

    def test_no_heap(self):
        empty, table = table_of(), table_of([5], [], [6], [7])
        for first, last in ((0, 0), (-1, 0), (0, -1), (1, 1)):
            self.assert_refused(empty, NoHeap, empty.pour, first, last)
        for first, last in ((1, 0), (2, 1), (0, 3), (3, 3), (-1, 1), (-1, -1), (-2, -1), (0, -1), (2, -1), (0, HUGE)):
            self.assert_refused(table, NoHeap, table.pour, first, last)

    def test_numbers_never_come_again(self):
        table = table_of([5, 6])
        table.take(ALWAYS)
        table.forget(2)
        self.assertEqual(table.pour(0, 0), 2)
        self.assertEqual(table.put([(5,)]), [2])
        table.take(ALWAYS)
        table.forget(4)
        table.pour(0, 0)
        self.assertEqual(table.put([(5,), (5,)]), [3, 4])
        self.assert_entries(table, [(3, 5, (5,)), (4, 5, (5,))])


class ForgetTest(TableCase):
    def test_the_oldest_moment(self):
        table = table_of([5], [6], [7])
        for moment in (0, 1, 1, 3):
            self.assertIsNone(table.forget(moment))
            self.assertEqual((table.oldest(), table.now()), (moment, 3))
        self.assertEqual(table.numbers_at(3), [0, 1, 2])

    def test_no_moment(self):
        table = table_of([5], [6], [7])
        table.forget(2)
        for moment in (-1, 0, 1, 4, 100, HUGE):
            self.assert_refused(table, NoMoment, table.forget, moment)
        empty = table_of()
        for moment in (-1, 1):
            self.assert_refused(empty, NoMoment, empty.forget, moment)


class MomentTest(TableCase):
    def test_no_moment(self):
        table = table_of([5], [6], [7])
        table.forget(1)
        for moment in (-1, 0, 4, 5, HUGE):
            self.assert_refused(table, NoMoment, table.rows_at, moment)
            self.assert_refused(table, NoMoment, table.numbers_at, moment)
        for moment in (1, 2, 3):
            self.assertEqual(table.numbers_at(moment), list(range(moment)))

    def test_there_from_its_born_to_its_mark(self):
        table = table_of([5])
        table.take(ALWAYS)
        table.put([(5,)])
        self.assertEqual([table.rows_at(moment) for moment in range(4)], [[], [(5,)], [], [(5,)]])

    def test_marks_rise_by_numbers(self):
        table = table_of([5, 6, 7, 8])
        for number in (8, 6, 7):
            table.take(number_is(number))
        self.assertEqual(table.marks(), [(1, 3), (2, 4), (3, 2)])
        self.assertTrue(all(isinstance(pair, tuple) for pair in table.marks()))

    def test_behind_many_deeds(self):
        for seed in range(20):
            chance = random.Random(seed)
            long = chance.choice([1, 2, 3, 64])
            table, plain = Table(KINDS, long), PlainTable(KINDS, long)
            for _deed in range(25):
                deed, handed = some_deed(chance, plain)
                self.assertEqual(getattr(table, deed)(*handed), getattr(plain, deed)(*handed))
                self.assert_like(table, plain)

    def assert_like(self, table, plain):
        self.assertEqual((table.now(), table.oldest()), (plain.now, plain.oldest))
        self.assertEqual(table.marks(), sorted(plain.marks.items()))
        self.assertEqual(table.heaps(), plain.heap_rows())
        for row in table.heaps():
            self.assertEqual((Heap(row).long(), Heap(row).kinds()), (plain.long, KINDS))
        for moment in range(plain.oldest, plain.now + 1):
            self.assertEqual(table.rows_at(moment), plain.rows_at(moment))
            self.assertEqual(table.numbers_at(moment), plain.numbers_at(moment))


class OwnTest(TableCase):
    def test_what_is_handed_in_stays_and_is_not_kept(self):
        kinds, rows, values = ["number", "text"], [[5, "a"], [6, "b"]], [6]
        table = Table(kinds, 2)
        table.put(rows)
        table.take(("cell", 0, ("among", values)))
        self.assertEqual((kinds, rows, values), (["number", "text"], [[5, "a"], [6, "b"]], [6]))
        before = told_by(table)
        kinds.append("text")
        rows[0][0] = 9
        rows.pop()
        values.append(5)
        self.assertEqual(told_by(table), before)
        self.assertEqual(table.rows_at(1), [(5, "a"), (6, "b")])

    def test_what_is_told_is_the_askers_own(self):
        table = table_of([5, 6, 7], [8])
        numbers = table.put([(9,)])
        taken = table.take(number_is(7, 8))
        before = told_by(table)
        for told in (numbers, taken, table.kinds(), table.marks(), table.rows_at(3), table.numbers_at(4)):
            told.append("more")
        table.heaps().clear()
        for row in table.heaps():
            row.clear()
        self.assertEqual(told_by(table), before)
        self.assertEqual((table.numbers_at(3), table.numbers_at(4)), ([0, 1, 2, 3, 4], [0, 1, 4]))
        self.assertEqual(table.kinds(), ["number"])

    def test_what_was_told_stays_behind_later_deeds(self):
        table = table_of([5, 6])
        told = told_by(table)
        table.take(number_is(6))
        table.put([(7,)])
        table.forget(2)
        table.pour(0, 1)
        entries = [(0, 1, (5,)), (1, 1, (6,))]
        at = [([], []), ([(5,), (6,)], [0, 1])]
        self.assertEqual(told, (1, 0, 2, ["number"], [heap_bytes(["number"], 2, entries)], [], at))

    def test_no_two_heaps_told_are_one(self):
        table = table_of([5])
        self.assertIsNot(table.heaps()[0], table.heaps()[0])

    def test_somewhat_beyond_the_bounds_is_no_error(self):
        for columns, long in ((9, 2), (30, 64), (1, 65), (1, 300), (1, 0)):
            table = Table(["number"] * columns, long)
            rows = [tuple([k] * columns) for k in range(600)]
            table.put(rows)
            table.take(number_is(*range(100, 600)))
            self.assertEqual((table.rows_at(1), table.rows_at(2)), (rows, rows[:100]))
            table.forget(2)
            self.assertEqual((table.pour(0, 0), len(table.heaps()), table.rows_at(2)), (500, 1, rows[:100]))


if __name__ == "__main__":
    unittest.main()
