"""[31] and [32]: heaps as rows of bytes, and back."""

import unittest

from pillarstore.byterows import number_bytes
from pillarstore.errors import BadBytes
from pillarstore.heaps import Heap, entries_of, heap_bytes, pillars_in, sum_of
from pillarstore.pillars import Pillar
from pillarstore.pressing import press_by, pressed
from tests.support import TOP, BytesCase

EIGHT = ["number", "text", "number", "number", "text", "text", "number", "text"]


def eight_cells(k):
    return (k, f"t{k % 7}", None, -k * k, "", None if k % 3 else "x", TOP - k, "~" * (k % 21))


HEAPS = {
    "one entry": (["number"], 1, [(0, 1, (5,))]),
    "one open": (["text"], 64, [(7, 3, (None,))]),
    "two columns": (["number", "text"], 2, [(0, 1, (5, "a")), (1, 1, (None, "b")), (4, 2, (7, None))]),
    "no order of borns": (["number"], 2, [(0, 9, (5,)), (3, 1, (5,)), (10 ** 17, 4, (6,))]),
    "long 1": (["text"], 1, [(k, k + 1, (f"x{k}",)) for k in range(5)]),
    "eight columns": (EIGHT, 64, [(2 * k, 1 + k // 50, eight_cells(k)) for k in range(300)]),
    "eight columns by 7": (EIGHT, 7, [(k, 1, eight_cells(k)) for k in range(50)]),
    "eight columns by 1": (EIGHT, 1, [(k, 2, eight_cells(k)) for k in range(20)]),
    "just full": (["number"], 64, [(k, 1, (k % 5,)) for k in range(128)]),
}


def sized(*rows):
    """Stretches with how many bytes each has ahead of it."""
    return [byte for row in rows for byte in number_bytes(len(row)) + row]


def summed(row):
    return row + sum_of(row)


# Of one number column, long 2, three entries; the stretches of the numbers, the borns and the cells.
HEAD = [72, 2, 0, 2, 6]
NUMBERS = [pressed([0, 1]), pressed([4])]
BORNS = [pressed([1, 1]), pressed([2])]
CELLS = [pressed([5, None]), pressed([7])]


def heap_row(head=(), numbers=(), borns=(), cells=()):
    """The row of bytes of a heap, with something else put in here and there."""
    stretches = list(numbers or NUMBERS) + list(borns or BORNS) + list(cells or CELLS)
    return list(head or HEAD) + sized(*stretches)


class SumTest(unittest.TestCase):
    def test_by_hand(self):
        self.assertEqual(sum_of([]), [0, 0, 0, 0])
        self.assertEqual(sum_of([0]), [1, 0, 0, 0])
        self.assertEqual(sum_of([255]), [0, 1, 0, 0])
        self.assertEqual(sum_of([1, 2, 3]), [2 + 6 + 12, 0, 0, 0])
        self.assertEqual(sum_of((255, 255)), [0, 3, 0, 0])

    def test_the_places_count(self):
        self.assertNotEqual(sum_of([1, 2]), sum_of([2, 1]))
        self.assertNotEqual(sum_of([0]), sum_of([0, 0]))

    def test_many_and_beyond_four_bytes(self):
        for many in (100, 4095, 6000, 70000):
            total = sum((k + 1) * (k % 256 + 1) for k in range(many))
            expected = [total // 256 ** k % 256 for k in range(4)]
            self.assertEqual(sum_of([k % 256 for k in range(many)]), expected)
        self.assertGreater(total, 4294967296)

    def test_the_row_stays(self):
        row = [7, 8]
        sum_of(row).append(3)
        self.assertEqual((row, sum_of(row)), ([7, 8], [26, 0, 0, 0]))


class HeapBytesTest(unittest.TestCase):
    def test_by_hand(self):
        body = [72, 2, 0, 1, 2] + sized([0, 2, 1, 0], [0, 2, 1, 2], [0, 2, 1, 10])
        self.assertEqual(heap_bytes(["number"], 1, [(0, 1, (5,))]), summed(body))
        body = [72, 4, 0, 1, 64, 2] + sized([0, 2, 1, 14], [0, 2, 1, 6], [0, 2, 0], [0, 2, 2, 2, 64])
        self.assertEqual(heap_bytes(["number", "text"], 64, [(7, 3, (None, "a"))]), summed(body))

    def test_pillar_by_pillar_stretch_by_stretch(self):
        entries = [(0, 1, (5,)), (1, 1, (None,)), (4, 2, (7,))]
        self.assertEqual(heap_bytes(["number"], 2, entries), summed(heap_row()))
        for kinds, long, entries in HEAPS.values():
            columns = [[e[0] for e in entries], [e[1] for e in entries]]
            columns += [[e[2][place] for e in entries] for place in range(len(kinds))]
            body = [72] + number_bytes(len(kinds)) + [["number", "text"].index(kind) for kind in kinds]
            body += [long] + number_bytes(len(entries))
            for cells in columns:
                body += sized(*[pressed(cells[at:at + long]) for at in range(0, len(cells), long)])
            self.assertEqual(heap_bytes(kinds, long, entries), summed(body))

    def test_lists_and_tuples(self):
        told = heap_bytes(("number",), 2, ([0, 1, [5]], (1, 1, [None]), (4, 2, (7,))))
        self.assertEqual(told, summed(heap_row()))

    def test_what_is_handed_in_stays(self):
        kinds, entries = ["number"], [(0, 1, [5]), (2, 1, [6])]
        heap_bytes(kinds, 2, entries).clear()
        self.assertEqual((kinds, entries), (["number"], [(0, 1, [5]), (2, 1, [6])]))

    def test_somewhat_beyond_the_bounds_is_no_error(self):
        wide = ["number"] * 9
        for kinds, long, entries in (
            (wide, 2, [(0, 1, tuple(range(9)))]), (["number"], 65, [(0, 1, (5,))]), (["number"], 0, [(0, 1, (5,))]),
            (["text"], 2, [(0, 1, ("x" * 21,))]), (["number"], 2, [(0, 1, (10 ** 20,))]), (["number"], 2, []),
        ):
            self.assertIsInstance(heap_bytes(kinds, long, entries), list)


class HeapTest(unittest.TestCase):
    def test_what_it_tells(self):
        for kinds, long, entries in HEAPS.values():
            row = heap_bytes(kinds, long, entries)
            for heap in (Heap(row), Heap(tuple(row))):
                self.assertEqual((heap.long(), heap.kinds(), heap.entries()), (long, kinds, entries))
                self.assertTrue(all(isinstance(e, tuple) and isinstance(e[2], tuple) for e in heap.entries()))
                self.assertEqual(heap_bytes(heap.kinds(), heap.long(), heap.entries()), row)

    def test_its_pillars(self):
        for kinds, long, entries in HEAPS.values():
            pillars = Heap(heap_bytes(kinds, long, entries)).pillars()
            self.assertEqual(len(pillars), len(kinds) + 2)
            columns = [[e[0] for e in entries], [e[1] for e in entries]]
            columns += [[e[2][place] for e in entries] for place in range(len(kinds))]
            for pillar, cells in zip(pillars, columns):
                self.assertIsInstance(pillar, Pillar)
                self.assertEqual([pillar.cell(k) for k in range(pillar.many())], cells)
                self.assertEqual(pillar.rows(), Pillar(long, cells).rows())
                self.assertEqual(pillar.notes(), Pillar(long, cells).notes())

    def test_what_is_handed_in_stays_and_is_not_kept(self):
        row = summed(heap_row())
        heap = Heap(row)
        self.assertEqual(row, summed(heap_row()))
        row.clear()
        self.assertEqual(heap.entries(), [(0, 1, (5,)), (1, 1, (None,)), (4, 2, (7,))])

    def test_what_is_told_is_the_askers_own(self):
        heap = Heap(summed(heap_row()))
        for _turn in range(2):
            self.assertEqual(heap.kinds(), ["number"])
            self.assertEqual(heap.entries(), [(0, 1, (5,)), (1, 1, (None,)), (4, 2, (7,))])
            self.assertEqual(len(heap.pillars()), 3)
            for told in (heap.kinds(), heap.entries(), heap.pillars(), heap.pillars()[0].rows()):
                told.clear()


class PillarsInTest(BytesCase):
    def test_as_a_heaps(self):
        for kinds, long, entries in HEAPS.values():
            row = heap_bytes(kinds, long, entries)
            pillars, expected = pillars_in(row), Heap(row).pillars()
            self.assertEqual(entries_of(pillars), entries)
            self.assertEqual([pillar.rows() for pillar in pillars], [pillar.rows() for pillar in expected])
            self.assertEqual([pillar.notes() for pillar in pillars], [pillar.notes() for pillar in expected])

    def test_somewhat_beyond_the_bounds_is_no_error(self):
        for kinds, long, many in ((["number"] * 9, 2, 5), (["text"], 66, 140), (["number"], 0, 3)):
            cell = "x" if kinds == ["text"] else 5
            entries = [(k, 1, (cell,) * len(kinds)) for k in range(many)]
            self.assertEqual(entries_of(pillars_in(heap_bytes(kinds, long, entries))), entries)

    def test_the_sum(self):
        row = summed(heap_row())
        for wrong in ([], row[:-1], row[:-1] + [row[-1] + 1], [72] + row):
            self.assert_why("sum", pillars_in, wrong)


class SumRefusedTest(BytesCase):
    def test_fewer_than_four_bytes(self):
        for row in ([], [0], [72], [0, 0, 0], [255, 255, 255]):
            self.assert_why("sum", Heap, row)
            self.assert_why("sum", Heap, tuple(row))

    def test_each_byte_changed(self):
        row = summed(heap_row())
        for place in range(len(row)):
            for by in (1, 7, 255):
                changed = list(row)
                changed[place] = (changed[place] + by) % 256
                self.assert_why("sum", Heap, changed)

    def test_cut_off_or_more_behind(self):
        row = summed(heap_row())
        for cut in range(len(row)):
            if row[:cut] != summed(row[:max(0, cut - 4)]):
                self.assert_why("sum", Heap, row[:cut])
        for more in ([0], [1], [0, 0, 0, 0], [72]):
            self.assert_why("sum", Heap, row + more)

    def test_the_sum_goes_first(self):
        self.assert_why("sum", Heap, [1, 2, 3, 4, 5])
        self.assert_why("sum", Heap, [73] + heap_row()[1:] + [0, 0, 0, 0])


class RefusedCase(BytesCase):
    """A test case that asks for the why of bodies under a right sum."""

    def refused(self, why, *bodies):
        for body in bodies:
            with self.subTest(body=body):
                self.assert_why(why, Heap, summed(body))
                self.assert_why(why, Heap, tuple(summed(body)))


class RefusedTest(RefusedCase):
    def test_short_at_each_cut(self):
        for kinds, long, entries in HEAPS.values():
            body = heap_bytes(kinds, long, entries)[:-4]
            for cut in list(range(min(len(body), 120))) + list(range(len(body) - 9, len(body))):
                self.refused("short", body[:max(0, cut)])

    def test_mark(self):
        self.refused("mark", [0], [71], [73] + heap_row()[1:], [200, 2], [255])

    def test_long(self):
        self.refused("long", [72, 130, 0], [72] + [128] * 9, [72, 2, 0, 2, 134, 0], [72, 2, 0, 2] + [255] * 9)
        self.refused("long", HEAD + [134, 0], HEAD + [128, 128, 0])
        self.refused("long", HEAD + sized([0, 132, 0]), HEAD + sized([0, 2, 1] + [255] * 9))

    def test_count_of_columns(self):
        for columns in (0, -1, 9, 10, 1000, -8):
            self.refused("count", [72] + number_bytes(columns), [72] + number_bytes(columns) + [0] * 9 + [2, 6])

    def test_count_of_long(self):
        for long in (0, 65, 66, 128, 255):
            self.refused("count", [72, 2, 0, long], [72, 2, 0, long, 6], heap_row(head=[72, 2, 0, long, 6]))

    def test_count_of_entries(self):
        for many in (0, -1, -3, -(10 ** 17)):
            head = [72, 2, 0, 2] + number_bytes(many)
            self.refused("count", head, heap_row(head=head))

    def test_count_of_a_stretchs_bytes(self):
        for many in (0, -1, -5, -(10 ** 17)):
            self.refused("count", HEAD + number_bytes(many), HEAD + number_bytes(many) + heap_row()[len(HEAD):])
            self.refused("count", HEAD + sized(*NUMBERS) + number_bytes(many))

    def test_count_within_a_stretch(self):
        self.refused("count", HEAD + sized([0, 0]), HEAD + sized([0, 1]), HEAD + sized([0] + number_bytes(65)))
        self.refused("count", HEAD + sized([1, 4, 0]), HEAD + sized([2, 4, 6]), HEAD + sized([0, 2, 2, 42]))

    def test_kind_of_a_column(self):
        self.refused("kind", [72, 2, 2], [72, 2, 2, 2, 6], [72, 4, 0, 2], [72, 4, 1, 255, 2])
        self.refused("kind", [72, 2, 200] + heap_row()[3:])

    def test_kind_of_a_cell(self):
        self.refused("kind", heap_row(cells=[[0, 4, 3], pressed([7])]))
        self.refused("kind", heap_row(numbers=[[0, 4, 255, 1], pressed([4])]))

    def test_sign_way_wide_and_tail(self):
        self.refused("sign", heap_row(cells=[[0, 4, 2, 2, 94, 0]]))
        self.refused("sign", heap_row(cells=[pressed([1, 2]), [0, 2, 2, 2, 255]]))
        self.refused("way", heap_row(numbers=[[5, 2, 1, 10]]), heap_row(cells=[pressed([1, 2]), [255]]))
        self.refused("wide", heap_row(cells=[[3, 4, 0, 63, 0]]), heap_row(borns=[[4, 4, 0, 0, 63]]))
        self.refused("tail", heap_row(cells=[[3, 4, 0, 1, 4]]), heap_row(borns=[[2, 4, 4, 1, 0, 1, 2, 254]]))

    def test_short_within_a_stretch(self):
        row = pressed([5, None])
        for cut in range(1, len(row)):
            self.refused("short", heap_row(cells=[row[:cut], pressed([7])]))

    def test_short_where_a_stretchs_bytes_are_not_all_there(self):
        self.refused("short", HEAD + number_bytes(100), HEAD + number_bytes(2) + [0])
        # Even where what there is of it would be refused by itself.
        self.refused("short", HEAD + number_bytes(5) + [9, 9], HEAD + number_bytes(100) + [0, 0])
        self.refused("short", HEAD + number_bytes(10 ** 17) + heap_row()[len(HEAD):])

    def test_short_of_far_more_entries_than_there_are(self):
        head = [72, 2, 0, 1] + number_bytes(10 ** 18)
        self.refused("short", head, heap_row(head=head))

    def test_behind_and_form_within_a_stretch_ahead_of_the_next_one(self):
        bad = [9]
        self.refused("behind", heap_row(numbers=[pressed([0, 1]) + [0], bad]))
        self.refused("behind", heap_row(borns=[pressed([1, 1]) + [9], bad]))
        self.refused("behind", heap_row(cells=[pressed([5, None]), pressed([7]) + [0]]) + [3])
        self.refused("form", heap_row(numbers=[[1, 4, 4, 1, 0, 2, 1, 0, 2], bad]))
        self.refused("form", heap_row(numbers=[[0, 2, 1] + number_bytes(10 ** 18), bad]))
        self.refused("form", heap_row(cells=[[3, 4, 0, 2, 5], bad]), heap_row(cells=[[0, 4, 1, 0, 2, 0], bad]))

    def test_behind_the_last_stretch(self):
        for more in ([0], [72], [9, 9, 9], heap_row()):
            self.refused("behind", heap_row() + more)

    def test_behind_goes_ahead_of_the_form_of_the_whole(self):
        self.refused("behind", heap_row(numbers=[pressed([1, 0]), pressed([4])]) + [0])
        self.refused("behind", heap_row(cells=[pressed(["a", None]), pressed([7])]) + [0])
        self.refused("form", heap_row(numbers=[pressed([1, 0]), pressed([4])]))


class FormTest(RefusedCase):
    def test_numbers_that_do_not_rise(self):
        for first, second in (([0, 0], [4]), ([1, 0], [4]), ([0, 4], [4]), ([0, 5], [4])):
            self.refused("form", heap_row(numbers=[pressed(first), pressed(second)]))

    def test_numbers_below_nought(self):
        self.refused("form", heap_row(numbers=[pressed([-1, 1]), pressed([4])]))
        self.refused("form", heap_row(numbers=[pressed([-3, -2]), pressed([-1])]))

    def test_numbers_and_borns_that_are_none(self):
        wrong = ([None, 1], [4]), ([0, None], [4]), ([0, 1], [None]), (["a", "b"], ["c"]), ([0, 1], ["c"])
        for first, second in wrong:
            self.refused("form", heap_row(numbers=[pressed(first), pressed(second)]))
            self.refused("form", heap_row(borns=[pressed(first), pressed(second)]))

    def test_a_born_below_one(self):
        for first, second in (([0, 1], [2]), ([1, 1], [0]), ([1, -1], [2])):
            self.refused("form", heap_row(borns=[pressed(first), pressed(second)]))

    def test_cells_of_another_kind(self):
        for first, second in ((["a", None], [7]), ([5, None], ["b"]), (["a", "b"], ["c"])):
            self.refused("form", heap_row(cells=[pressed(first), pressed(second)]))
        text = [72, 2, 1, 2, 6]
        self.refused("form", heap_row(head=text))
        self.assertEqual(Heap(summed(heap_row(text, cells=[pressed(["a", None]), pressed(["b"])]))).kinds(), ["text"])

    def test_a_stretch_of_another_count(self):
        for first, second in (([0], [4]), ([0, 1], [4, 5]), ([0], [1, 4]), ([0, 1, 2], [4]), ([0, 1, 4], [5])):
            self.refused("form", heap_row(numbers=[pressed(first), pressed(second)]))
        for first, second in (([5], [7]), ([5, None], [7, 8]), ([5], [None, 7]), ([5, None, 7], [7])):
            self.refused("form", heap_row(cells=[pressed(first), pressed(second)]))
            self.refused("form", heap_row(borns=[pressed([1] * len(first)), pressed([2] * len(second))]))
        shifted = [pressed([0]), pressed([1, 4])], [pressed([1]), pressed([1, 2])], [pressed([5]), pressed([None, 7])]
        self.refused("form", heap_row(HEAD, *shifted))

    def test_a_stretch_that_is_not_the_shortest(self):
        for way in range(5):
            for first in ([5, 6], [5, 5]):
                row = press_by(way, first)
                if row == pressed(first):
                    self.assertEqual(Heap(summed(heap_row(cells=[row, pressed([7])]))).entries()[0][2], (5,))
                else:
                    self.refused("form", heap_row(cells=[row, pressed([7])]))
        self.refused("form", heap_row(numbers=[NUMBERS[0], press_by(4, [4])]))
        self.refused("form", heap_row(borns=[press_by(1, [1, 1]), BORNS[1]]))


class TwoFaultsTest(BytesCase):
    def test_the_first_from_the_left_is_told(self):
        for why, body in (
            ("mark", [0, 0, 9, 99]), ("count", [72, 0, 9, 99]), ("kind", [72, 2, 2, 0, 0]),
            ("count", [72, 2, 0, 0, 134, 0]),
            ("count", [72, 2, 0, 2, 0, 0]), ("long", [72, 130, 0, 9]), ("kind", [72, 4, 0, 3]),
            ("way", HEAD + sized([9], [0, 0])), ("count", HEAD + sized([0, 0], [9])),
            ("behind", HEAD + sized([0, 2, 0, 0], [9])),
            ("form", HEAD + sized([1, 4, 2, 0, 2], [9])), ("sign", heap_row(cells=[[0, 2, 2, 2, 99], [9]]) + [1]),
        ):
            self.assert_why(why, Heap, summed(body))

    def test_only_refusals_of_changed_rows(self):
        row = heap_bytes(["number", "text"], 2, HEAPS["two columns"][2])[:-4]
        for place in range(len(row)):
            for byte in range(256):
                changed = row[:place] + [byte] + row[place + 1:]
                try:
                    heap = Heap(summed(changed))
                except BadBytes:
                    continue
                self.assertEqual(heap_bytes(heap.kinds(), heap.long(), heap.entries()), summed(changed))


if __name__ == "__main__":
    unittest.main()
