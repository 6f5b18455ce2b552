"""[24]: tests of rows."""

import copy
import unittest

from pillarstore.rowtests import moved, places_in, row_meets
from tests.support import MET

ALWAYS = ("always",)
NEVER = ("not", ALWAYS)


class RowMeetsTest(unittest.TestCase):
    def check(self, row, test, met):
        self.assertIs(row_meets(tuple(row), test), met, (row, test))
        self.assertIs(row_meets(list(row), test), met, (row, test))

    def test_always(self):
        for row in ((), (None,), (1, "a")):
            self.check(row, ALWAYS, True)
            self.check(row, NEVER, False)

    def test_cell(self):
        row = (5, None, "b")
        for sign, met in MET.items():
            self.assertEqual(tuple(row_meets(row, ("cell", 0, (sign, v))) for v in (6, 5, 4)), met)
            self.assertEqual(tuple(row_meets(row, ("cell", 2, (sign, v))) for v in ("c", "b", "a")), met)
            self.check(row, ("cell", 1, (sign, 5)), False)
        self.check(row, ("cell", 1, ("open",)), True)
        self.check(row, ("cell", 0, ("open",)), False)
        self.check(row, ("cell", 0, ("among", [4, 5])), True)
        self.check(row, ("cell", 2, ("among", ("a", "c"))), False)
        self.check(row, ("cell", 1, ("among", [5])), False)
        self.check(row, ("cell", 0, ("among", [])), False)

    def test_cells(self):
        for sign, met in MET.items():
            rows = ((4, "x", 5), (5, "x", 5), (6, "x", 5))
            self.assertEqual(tuple(row_meets(row, ("cells", 0, sign, 2)) for row in rows), met)
            rows = ((5, 4), (5, 5), (5, 6))
            self.assertEqual(tuple(row_meets(row, ("cells", 1, sign, 0)) for row in rows), met)
            rows = (("a", "b"), ("b", "b"), ("c", "b"))
            self.assertEqual(tuple(row_meets(list(row), ("cells", 0, sign, 1)) for row in rows), met)

    def test_cells_with_open_ones(self):
        for sign in MET:
            for row in ((None, 5), (5, None), (None, None), (None, "a"), ("", None)):
                self.check(row, ("cells", 0, sign, 1), False)
                self.check(row, ("not", ("cells", 0, sign, 1)), True)

    def test_a_place_with_itself(self):
        for sign, met in MET.items():
            for row in ((7, 5), (7, ""), (7, "a")):
                self.check(row, ("cells", 1, sign, 1), met[1])
            self.check((7, None), ("cells", 1, sign, 1), False)

    def test_not_of_open_cells(self):
        self.check((None,), ("not", ("cell", 0, ("=", 5))), True)
        self.check((None,), ("not", ("cell", 0, ("<>", 5))), True)
        self.check((None,), ("not", ("cell", 0, ("open",))), False)
        self.check((None,), ("not", ("not", ("cell", 0, ("=", 5)))), False)
        self.check((None,), ("not", ("cell", 0, ("among", []))), True)

    def test_both_and_either(self):
        for one in (ALWAYS, NEVER):
            for other in (ALWAYS, NEVER):
                self.check((1,), ("both", one, other), one == ALWAYS and other == ALWAYS)
                self.check((1,), ("either", one, other), one == ALWAYS or other == ALWAYS)
        self.check((None,), ("either", ("cell", 0, ("=", 5)), ("not", ("cell", 0, ("=", 5)))), True)
        self.check((None,), ("both", ("cell", 0, ("<>", 5)), ALWAYS), False)

    def test_within_one_another(self):
        test = ("either", ("both", ("cell", 0, (">", 3)), ("not", ("cells", 0, "=", 1))), ("cell", 2, ("open",)))
        self.check((4, 5, "a"), test, True)
        self.check((4, 4, "a"), test, False)
        self.check((4, 4, None), test, True)
        self.check((4, None, "a"), test, True)
        self.check((None, None, "a"), test, False)
        deep = ("cell", 0, ("=", 1))
        for turn in range(12):
            self.check((1,), deep, turn % 2 == 0)
            self.check((2,), deep, turn % 2 == 1)
            deep = ("not", deep)
        for _turn in range(12):
            deep = ("both", ("either", deep, NEVER), ALWAYS)
        self.check((1,), deep, True)
        self.check((2,), deep, False)


class PlacesTest(unittest.TestCase):
    def test_places(self):
        told = [
            (ALWAYS, []),
            (NEVER, []),
            (("both", ALWAYS, NEVER), []),
            (("cell", 3, ("open",)), [3]),
            (("cell", 0, ("among", [9, 8])), [0]),
            (("cells", 4, "<", 1), [1, 4]),
            (("cells", 2, "=", 2), [2]),
            (("not", ("cells", 1, ">=", 0)), [0, 1]),
            (("both", ("cell", 5, ("=", 1)), ("cell", 2, ("=", 7))), [2, 5]),
            (("either", ("cell", 5, ("=", 1)), ("both", ("cells", 5, "=", 10), ("cell", 9, ("open",)))), [5, 9, 10]),
            (("either", ("cell", 1, ("=", "7")), ("not", ("cell", 1, ("open",)))), [1]),
        ]
        for test, places in told:
            self.assertEqual(places_in(test), places, test)
            self.assertIsInstance(places_in(test), list)


class HandedInTest(unittest.TestCase):
    def test_what_is_handed_in_stays_and_all_is_told_again(self):
        row, values = [5, None], [4, 5]
        test = ("both", ("cell", 0, ("among", values)), ("not", ("cells", 1, "=", 0)))
        before = copy.deepcopy((row, test))
        for _again in range(2):
            self.assertIs(row_meets(row, test), True)
            places = places_in(test)
            self.assertEqual(places, [0, 1])
            places.append(7)
        self.assertEqual((row, test), before)


class MovedTest(unittest.TestCase):
    def test_each_word(self):
        among = ("among", [4, 5])
        self.assertEqual(moved((
            "both", ("either", ("cell", 0, ("open",)), ALWAYS),
            ("not", ("both", ("cells", 1, "<", 3), ("cell", 2, among))),
        ), 2), (
            "both", ("either", ("cell", 2, ("open",)), ALWAYS),
            ("not", ("both", ("cells", 3, "<", 5), ("cell", 4, ("among", (4, 5))))),
        ))
        self.assertEqual(moved(("cell", 1, ("<=", "a")), 0), ("cell", 1, ("<=", "a")))
        self.assertEqual(moved(ALWAYS, 7), ALWAYS)

    def test_nothing_handed_in_is_kept(self):
        values = [4, 5]
        told = moved(("not", ("cell", 0, ("among", values))), 2)
        values.append(6)
        self.assertEqual(told, ("not", ("cell", 2, ("among", (4, 5)))))


if __name__ == "__main__":
    unittest.main()
