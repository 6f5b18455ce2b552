"""[41], [42] and [44]: forms, and the plain reading of questions."""

import copy
import itertools
import random
import unittest

from pillarstore.plainly import form_cell, rows_of
from pillarstore.questions import kinds_of
from pillarstore.rowtests import row_meets
from tests.support import TOP

N, T = "number", "text"
KINDS = {"t": [N, T, N], "u": [T, N], "none": [N, T]}
ROWS = {
    "t": [(3, "b", 1), (1, "a", None), (3, "a", 2), (None, None, 5), (1, "b", 4), (None, "a", -5)],
    "u": [("a", 7), ("b", None), ("a", 8), (None, 9), ("c", 1)],
    "none": [],
}
TABLE, OTHER, EMPTY = ("table", "t"), ("table", "u"), ("table", "none")
ALWAYS = ("always",)


def cell(place):
    return ("cell", place)


def value(worth):
    return ("value", worth)


class FormTest(unittest.TestCase):
    ROW = (5, None, "a", 10 ** 17, -3, None)

    def check(self, form, told):
        self.assertEqual(form_cell(self.ROW, form), told, form)
        self.assertEqual(form_cell(list(self.ROW), form), told, form)

    def test_cells_and_values(self):
        for place, told in enumerate(self.ROW):
            self.check(cell(place), told)
        for worth in (None, 0, -TOP, "", "~"):
            self.check(value(worth), worth)

    def test_sums(self):
        for sign, told in (("+", 2), ("-", 8), ("*", -15)):
            self.check(("sum", sign, cell(0), cell(4)), told)
        self.check(("sum", "-", cell(4), cell(0)), -8)

    def test_sums_with_open_cells(self):
        for sign in "+-*":
            for one, other in ((cell(1), cell(0)), (cell(0), cell(1)), (cell(1), cell(1)), (value(None), value(0))):
                self.check(("sum", sign, one, other), None)

    def test_noughts_are_not_open(self):
        self.check(("sum", "*", value(0), cell(0)), 0)
        self.check(("first", value(0), cell(0)), 0)
        self.check(("first", value(""), cell(2)), "")

    def test_first(self):
        self.check(("first", cell(0), cell(4)), 5)
        self.check(("first", cell(1), cell(4)), -3)
        self.check(("first", cell(1), cell(5)), None)
        self.check(("first", cell(2), value("b")), "a")
        self.check(("first", ("first", cell(1), cell(5)), value("b")), "b")

    def test_numbers_of_any_size(self):
        self.check(("sum", "*", cell(3), value(TOP)), 10 ** 17 * TOP)
        self.check(("sum", "+", value(TOP), value(TOP)), 2 * TOP)
        form = value(-TOP)
        for _turn in range(11):
            form = ("sum", "*", form, value(TOP))
        self.check(form, -(TOP ** 12))

    def test_within_one_another(self):
        form = ("sum", "-", ("first", cell(1), cell(0)), ("sum", "*", cell(4), ("sum", "+", cell(0), value(2))))
        self.check(form, 26)
        self.check(("first", ("sum", "+", cell(1), cell(0)), ("sum", "+", cell(4), cell(0))), 2)


class RowsCase(unittest.TestCase):
    def check(self, question, told):
        got = rows_of(question, KINDS, ROWS)
        self.assertEqual(got, told, question)
        self.assertIsInstance(got, list)
        self.assertTrue(all(isinstance(row, tuple) for row in got))
        self.assertTrue(all(len(row) == len(kinds_of(question, KINDS)) for row in got))


class StepsTest(RowsCase):
    def test_tables(self):
        self.check(TABLE, ROWS["t"])
        self.check(EMPTY, [])
        self.assertEqual(rows_of(OTHER, KINDS, {"u": ([None, 5], ("a", 6))}), [(None, 5), ("a", 6)])

    def test_where(self):
        self.check(("where", TABLE, ("cell", 0, ("=", 3))), [(3, "b", 1), (3, "a", 2)])
        self.check(("where", TABLE, ("cells", 0, "<", 2)), [(1, "b", 4)])
        self.check(("where", TABLE, ("not", ALWAYS)), [])
        self.check(("where", ("where", TABLE, ("cell", 1, ("=", "a"))), ("cell", 2, (">", 0))), [(3, "a", 2)])
        self.check(("where", EMPTY, ALWAYS), [])

    def test_told(self):
        self.check(("told", OTHER, [cell(1), value("x")]), [(7, "x"), (None, "x"), (8, "x"), (9, "x"), (1, "x")])
        first = ("first", ("sum", "*", cell(0), cell(2)), value(0))
        self.check(("told", TABLE, (first, cell(1), cell(1))), [
            (3, "b", "b"), (0, "a", "a"), (6, "a", "a"), (0, None, None), (4, "b", "b"), (0, "a", "a"),
        ])
        self.check(("told", EMPTY, [value(5)]), [])

    def test_joined(self):
        self.check(("joined", TABLE, OTHER, [(1, 0)]), [
            (3, "b", 1, "b", None), (1, "a", None, "a", 7), (1, "a", None, "a", 8), (3, "a", 2, "a", 7),
            (3, "a", 2, "a", 8), (1, "b", 4, "b", None), (None, "a", -5, "a", 7), (None, "a", -5, "a", 8),
        ])
        self.check(("joined", OTHER, TABLE, ([0, 1],)), [
            ("a", 7, 1, "a", None), ("a", 7, 3, "a", 2), ("a", 7, None, "a", -5), ("b", None, 3, "b", 1),
            ("b", None, 1, "b", 4), ("a", 8, 1, "a", None), ("a", 8, 3, "a", 2), ("a", 8, None, "a", -5),
        ])
        self.check(("joined", TABLE, TABLE, [(0, 0), (1, 1)]), [row + row for row in ROWS["t"] if None not in row[:2]])

    def test_kept(self):
        self.check(("kept", OTHER, TABLE, [(0, 1), (1, 2)]), [row + (None,) * 3 for row in ROWS["u"]])
        self.check(("kept", TABLE, OTHER, [(2, 1)]), [
            (3, "b", 1, "c", 1), (1, "a", None, None, None), (3, "a", 2, None, None), (None, None, 5, None, None),
            (1, "b", 4, None, None), (None, "a", -5, None, None),
        ])
        self.check(("kept", OTHER, ("where", TABLE, ("cell", 0, ("=", 1))), [(0, 1)]), [
            ("a", 7, 1, "a", None), ("b", None, 1, "b", 4), ("a", 8, 1, "a", None), (None, 9, None, None, None),
            ("c", 1, None, None, None),
        ])

    def test_joins_of_no_rows(self):
        for word in ("joined", "kept"):
            self.check((word, EMPTY, TABLE, [(0, 0)]), [])
            self.check((word, EMPTY, EMPTY, [(0, 0)]), [])
        self.check(("joined", TABLE, EMPTY, [(0, 0)]), [])
        self.check(("kept", TABLE, EMPTY, [(0, 0)]), [row + (None, None) for row in ROWS["t"]])

    def test_grouped_without_places(self):
        counts = [("rows",), ("known", 0), ("sum", 0), ("least", 0), ("most", 0), ("least", 1), ("most", 1)]
        self.check(("grouped", TABLE, [], counts), [(6, 4, 8, 1, 3, "a", "b")])
        self.check(("grouped", EMPTY, (), counts), [(0, 0, None, None, None, None, None)])
        opened = ("where", TABLE, ("cell", 0, ("open",)))
        self.check(("grouped", opened, [], counts[:5]), [(2, 0, None, None, None)])

    def test_grouped_with_places(self):
        self.check(("grouped", TABLE, [0], []), [(None,), (1,), (3,)])
        self.check(("grouped", TABLE, [0], [("rows",), ("sum", 2)]), [(None, 2, 0), (1, 2, 4), (3, 2, 3)])
        self.check(("grouped", TABLE, [1, 0], [("known", 2)]), [
            (None, None, 1), ("a", None, 1), ("a", 1, 0), ("a", 3, 1), ("b", 1, 1), ("b", 3, 1),
        ])
        self.check(("grouped", TABLE, (0, 1), [("most", 2)]), [
            (None, None, 5), (None, "a", -5), (1, "a", None), (1, "b", 4), (3, "a", 2), (3, "b", 1),
        ])
        self.check(("grouped", TABLE, [1, 1], [("least", 2), ("rows",)]), [
            (None, None, 5, 1), ("a", "a", -5, 3), ("b", "b", 1, 2),
        ])
        self.check(("grouped", EMPTY, [0], [("rows",)]), [])

    def test_sums_beyond_eighteen_figures(self):
        rows = {"t": [(TOP, "a", None)] * 30}
        self.assertEqual(rows_of(("grouped", TABLE, [], [("sum", 0)]), KINDS, rows), [(30 * TOP,)])
        told = rows_of(("windowed", TABLE, [], [], [("sum", 0, None)]), KINDS, rows)
        self.assertEqual(told[-1][-1], 30 * TOP)

    def test_ordered(self):
        self.check(("ordered", TABLE, [(0, False)], None), [
            (None, None, 5), (None, "a", -5), (1, "a", None), (1, "b", 4), (3, "b", 1), (3, "a", 2),
        ])
        self.check(("ordered", TABLE, [(0, True)], None), [
            (3, "b", 1), (3, "a", 2), (1, "a", None), (1, "b", 4), (None, None, 5), (None, "a", -5),
        ])
        self.check(("ordered", TABLE, ([1, True], (2, False)), None), [
            (3, "b", 1), (1, "b", 4), (1, "a", None), (None, "a", -5), (3, "a", 2), (None, None, 5),
        ])
        self.check(("ordered", TABLE, [], None), ROWS["t"])
        self.check(("ordered", EMPTY, [(0, True)], None), [])

    def test_the_first_many(self):
        for many in (0, 1, 3, 6, 7, 500):
            self.check(("ordered", TABLE, [], many), ROWS["t"][:many])
            self.check(("ordered", EMPTY, [], many), [])
        self.check(("ordered", TABLE, [(2, True)], 2), [(None, None, 5), (1, "b", 4)])


class WindowedTest(RowsCase):
    def check_cells(self, places, items, windows, told):
        self.check(("windowed", TABLE, places, items, windows), [row + cells for row, cells in zip(ROWS["t"], told)])

    def test_number(self):
        self.check_cells([], [], [("number",)], [(1,), (2,), (3,), (4,), (5,), (6,)])
        self.check_cells([0], [], [("number",)], [(1,), (1,), (2,), (1,), (2,), (2,)])
        self.check_cells((), ([2, True],), (("number",),), [(4,), (6,), (3,), (1,), (2,), (5,)])
        self.check_cells([1], [(0, False), (2, False)], [("number",)], [(2,), (2,), (3,), (1,), (1,), (1,)])

    def test_rank(self):
        self.check_cells([], [], [("rank",)], [(1,)] * 6)
        self.check_cells([], [(0, False)], [("rank",)], [(5,), (3,), (5,), (1,), (3,), (1,)])
        self.check_cells([], [(0, True)], [("rank",), ("number",)], [(1, 1), (3, 3), (1, 2), (5, 5), (3, 4), (5, 6)])
        self.check_cells([1], [(0, False)], [("rank",)], [(2,), (2,), (3,), (1,), (1,), (1,)])
        self.check_cells([0, 1], [(2, False)], [("rank",)], [(1,)] * 6)

    def test_ahead(self):
        none = (None,) * 6
        for k, told in ((0, (3, 1, 3, None, 1, None)), (1, (None, 3, 1, 3, None, 1)), (6, none), (99, none)):
            self.check_cells([], [], [("ahead", 0, k)], [(x,) for x in told])
        self.check_cells([], [(2, False)], [("ahead", 1, 1)], [("a",), (None,), ("b",), ("b",), ("a",), ("a",)])
        self.check_cells([0], [], [("ahead", 1, 1)], [(None,), (None,), ("b",), (None,), ("a",), (None,)])

    def test_sum(self):
        self.check_cells([], [], [("sum", 2, None)], [(1,), (1,), (3,), (8,), (12,), (7,)])
        self.check_cells([], [], [("sum", 2, 0)], [(1,), (None,), (2,), (5,), (4,), (-5,)])
        self.check_cells([], [], [("sum", 2, 1)], [(1,), (1,), (2,), (7,), (9,), (-1,)])
        self.check_cells([], [], [("sum", 2, 99)], [(1,), (1,), (3,), (8,), (12,), (7,)])
        self.check_cells([1], [(2, True)], [("sum", 2, None)], [(5,), (-3,), (2,), (5,), (4,), (-3,)])
        self.check_cells([0], [], [("sum", 0, None)], [(3,), (1,), (6,), (None,), (2,), (None,)])

    def test_several_windows_and_no_rows(self):
        windows = [("rank",), ("ahead", 1, 1), ("sum", 0, 1), ("number",), ("rank",)]
        self.check(("windowed", EMPTY, [], [], windows[:1]), [])
        self.check_cells([], [(1, False)], windows, [
            (5, "a", 3, 5, 5), (2, None, 1, 2, 2), (2, "a", 4, 3, 2), (1, None, None, 1, 1), (5, "b", 4, 6, 5),
            (2, "a", 3, 4, 2),
        ])


def brute_windows(rows, places, items, windows):
    """The windows' cells by looking at all rows for each."""
    def key(row):
        return [row[place] for place in places]

    def ahead(one, other):
        for place, down in items:
            a, b = one[place], other[place]
            if a != b:
                return (a is None or (b is not None and a < b)) != down
        return False

    def in_front_of(pair, part):
        at, row = pair
        return [(j, o) for j, o in part if ahead(o, row) or (not ahead(row, o) and j < at)]

    told = []
    for at, row in enumerate(rows):
        part = [(j, other) for j, other in enumerate(rows) if key(other) == key(row)]
        front = sorted(in_front_of((at, row), part), key=lambda pair: len(in_front_of(pair, part)))
        cells = []
        for window in windows:
            if window[0] == "number":
                cells.append(1 + len(front))
            elif window[0] == "rank":
                cells.append(1 + sum(ahead(o, row) for _j, o in part))
            else:
                word, place, k = window
                line = [o for _j, o in front] + [row]
                if word == "ahead":
                    cells.append(line[-1 - k][place] if k < len(line) else None)
                else:
                    known = [o[place] for o in (line if k is None else line[-1 - k:]) if o[place] is not None]
                    cells.append(sum(known) if known else None)
        told.append(row + tuple(cells))
    return told


class BruteTest(unittest.TestCase):
    WINDOWS = [("number",), ("rank",), ("ahead", 1, 0), ("ahead", 0, 2), ("sum", 2, None), ("sum", 0, 1), ("sum", 2, 0)]

    def setUp(self):
        chance = random.Random(11)
        numbers, texts = [None, 0, 1, 2, -3], [None, "a", "b", ""]
        self.rows = {
            "t": [(chance.choice(numbers), chance.choice(texts), chance.choice(numbers)) for _row in range(40)],
            "u": [(chance.choice(texts), chance.choice(numbers)) for _row in range(25)],
        }

    def test_windows(self):
        for places in ([], [1], [0, 1], [2, 2]):
            for items in ([], [(0, False)], [(2, True), (1, False)], [(1, True), (0, True)]):
                told = rows_of(("windowed", TABLE, places, items, self.WINDOWS), KINDS, self.rows)
                self.assertEqual(told, brute_windows(self.rows["t"], places, items, self.WINDOWS))

    def test_joins(self):
        one, other = self.rows["t"], self.rows["u"]
        for pairs in ([(1, 0)], [(0, 1)], [(1, 0), (2, 1)], [(0, 1), (2, 1)]):
            joined, kept = [], []
            for row in one:
                mates = [mate for mate in other if all(row[a] is not None and row[a] == mate[b] for a, b in pairs)]
                joined += [row + mate for mate in mates]
                kept += [row + mate for mate in mates or [(None, None)]]
            self.assertEqual(rows_of(("joined", TABLE, OTHER, pairs), KINDS, self.rows), joined)
            self.assertEqual(rows_of(("kept", TABLE, OTHER, pairs), KINDS, self.rows), kept)

    def test_groups(self):
        for places in ([0], [1, 2], [2, 1, 0]):
            rows = self.rows["t"]
            keys = {tuple(row[p] for p in places) for row in rows}
            keys = sorted(keys, key=lambda k: [(x is not None, x) for x in k])
            told = []
            for key in keys:
                group = [row for row in rows if tuple(row[p] for p in places) == key]
                known = [row[2] for row in group if row[2] is not None]
                told.append(key + (len(group), len(known), max(known, default=None), sum(known) if known else None))
            counts = [("rows",), ("known", 2), ("most", 2), ("sum", 2)]
            self.assertEqual(rows_of(("grouped", TABLE, places, counts), KINDS, self.rows), told)

    def test_wheres(self):
        for test in itertools.product((("cell", 0, (">", 0)), ("cells", 0, "=", 2)), (("cell", 1, ("open",)), ALWAYS)):
            question = ("where", TABLE, ("either", *test))
            expected = [row for row in self.rows["t"] if row_meets(row, question[2])]
            self.assertEqual(rows_of(question, KINDS, self.rows), expected)


class WithinTest(RowsCase):
    def test_each_word_over_another(self):
        joined = ("joined", ("where", TABLE, ("cell", 0, (">=", 1))), OTHER, [(1, 0)])
        groups = ("grouped", joined, [0], [("rows",), ("sum", 4)])
        self.check(groups, [(1, 3, 15), (3, 3, 15)])
        windows = ("windowed", groups, [], [(0, True)], [("sum", 2, None)])
        self.check(windows, [(1, 3, 15, 30), (3, 3, 15, 15)])
        self.check(("ordered", ("told", windows, [cell(3), cell(0)]), [(0, False)], 1), [(15, 3)])
        self.check(("kept", ("told", windows, [cell(0)]), EMPTY, [(0, 0)]), [(1, None, None), (3, None, None)])
        self.check(("joined", ("ordered", OTHER, [(1, True)], 2), ("grouped", OTHER, [1], []), [(1, 0)]), [
            (None, 9, 9), ("a", 8, 8),
        ])

    def test_somewhat_deeper_than_told(self):
        question = TABLE
        for _turn in range(15):
            question = ("ordered", ("where", question, ALWAYS), [], None)
        self.check(question, ROWS["t"])


class OwnTest(unittest.TestCase):
    QUESTIONS = (
        TABLE, ("where", TABLE, ("cell", 0, ("among", [1, 3]))), ("told", TABLE, [cell(0)]),
        ("kept", TABLE, OTHER, [[1, 0]]), ("grouped", TABLE, [0], [("rows",)]), ("ordered", TABLE, [[0, True]], None),
        ("ordered", TABLE, [], None), ("windowed", TABLE, [0], [[1, True]], [("rank",)]),
    )

    def test_what_is_handed_in_stays(self):
        for question in self.QUESTIONS:
            kinds, rows, asked = copy.deepcopy((KINDS, ROWS, question))
            rows["t"] = [list(row) for row in rows["t"]]
            told = rows_of(asked, kinds, rows)
            self.assertEqual((asked, kinds), (question, KINDS))
            self.assertEqual(rows["t"], [list(row) for row in ROWS["t"]])
            expected = list(told)
            rows["t"][0][0] = 99
            rows["t"].pop()
            self.assertEqual(told, expected)

    def test_what_is_told_is_the_askers_own(self):
        for question in self.QUESTIONS:
            rows = copy.deepcopy(ROWS)
            expected = tuple(rows_of(question, KINDS, rows))
            rows_of(question, KINDS, rows).append("more")
            self.assertEqual(tuple(rows_of(question, KINDS, rows)), expected)
            self.assertEqual(rows, ROWS)


if __name__ == "__main__":
    unittest.main()
