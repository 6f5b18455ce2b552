"""[21] and [22]: tests of cells, notes, and what notes tell."""

import copy
import unittest

from pillarstore.celltests import looked, meets, note_of
from tests.support import MET

SIGNS = ["=", "<>", "<", "<=", ">", ">="]
THREES = [
    (4, 5, 6), (-6, -5, -4), (-1, 0, 1), (10 ** 18 - 3, 10 ** 18 - 2, 10 ** 18 - 1),
    ("a", "b", "c"), ("", " ", "!"), ("Z", "a", "aa"), ("10", "9", "~"),
]


class MeetsTest(unittest.TestCase):
    def test_each_sign_below_at_and_beyond(self):
        for three in THREES:
            for sign in SIGNS:
                told = tuple(meets(cell, (sign, three[1])) for cell in three)
                self.assertEqual(told, MET[sign], (three, sign))
                self.assertTrue(all(isinstance(each, bool) for each in told))

    def test_open_cells(self):
        self.assertIs(meets(None, ("open",)), True)
        for value in (0, -3, "", "a"):
            self.assertIs(meets(value, ("open",)), False)
            for sign in SIGNS:
                self.assertIs(meets(None, (sign, value)), False)
            self.assertIs(meets(None, ("among", [value])), False)
        self.assertIs(meets(None, ("among", [])), False)

    def test_among(self):
        for values in ([3, 5, 5], (3, 5, 5)):
            self.assertIs(meets(3, ("among", values)), True)
            self.assertIs(meets(5, ("among", values)), True)
            self.assertIs(meets(4, ("among", values)), False)
        self.assertIs(meets("b", ("among", ["a", "b"])), True)
        self.assertIs(meets("ab", ("among", ("a", "b"))), False)
        for none in ([], ()):
            self.assertIs(meets(0, ("among", none)), False)
            self.assertIs(meets("", ("among", none)), False)


class NoteTest(unittest.TestCase):
    def test_notes(self):
        told = [
            ([4, 2, 9, 2], (4, 0, 2, 9)),
            ([None, 4, None, -2], (4, 2, -2, 4)),
            ([None, None], (2, 2, None, None)),
            ([None], (1, 1, None, None)),
            ([7], (1, 0, 7, 7)),
            ([""], (1, 0, "", "")),
            (["b", None, "Z", "a"], (4, 1, "Z", "b")),
            ([0] * 64, (64, 0, 0, 0)),
        ]
        for cells, note in told:
            self.assertEqual(note_of(cells), note)
            self.assertEqual(note_of(tuple(cells)), note)
            self.assertIsInstance(note_of(cells), tuple)


# Per sign: what is told of cells from 10 to 20 (none open) for the values 9, 10, 11, 19, 20, 21.
WIDE = {
    "=": ("none", "some", "some", "some", "some", "none"),
    "<>": ("all", "some", "some", "some", "some", "all"),
    "<": ("none", "none", "some", "some", "some", "all"),
    "<=": ("none", "some", "some", "some", "all", "all"),
    ">": ("all", "some", "some", "some", "none", "none"),
    ">=": ("all", "all", "some", "some", "some", "none"),
}
# The same of cells that are all 10, for the values 9, 10, 11.
ALIKE = {
    "=": ("none", "all", "none"), "<>": ("all", "none", "all"), "<": ("none", "none", "all"),
    "<=": ("none", "all", "all"), ">": ("all", "none", "none"), ">=": ("all", "all", "none"),
}
TEXTS = {9: "9", 10: "A", 11: "A ", 19: "az", 20: "b", 21: "b "}


class LookedTest(unittest.TestCase):
    def check(self, note, test, word):
        self.assertEqual(looked(note, test), word, (note, test))

    def test_open(self):
        self.check((3, 0, 1, 2), ("open",), "none")
        self.check((3, 3, None, None), ("open",), "all")
        self.check((1, 1, None, None), ("open",), "all")
        self.check((3, 1, 1, 2), ("open",), "some")
        self.check((3, 2, 1, 1), ("open",), "some")

    def test_signs_without_open_cells(self):
        for sign in SIGNS:
            for value, word in zip((9, 10, 11, 19, 20, 21), WIDE[sign]):
                self.check((5, 0, 10, 20), (sign, value), word)
                self.check((5, 0, TEXTS[10], TEXTS[20]), (sign, TEXTS[value]), word)
            for value, word in zip((9, 10, 11), ALIKE[sign]):
                self.check((5, 0, 10, 10), (sign, value), word)
                self.check((1, 0, 10, 10), (sign, value), word)
                self.check((5, 0, TEXTS[10], TEXTS[10]), (sign, TEXTS[value]), word)

    def test_with_open_cells_all_becomes_some(self):
        for sign in SIGNS:
            for value, word in zip((9, 10, 11, 19, 20, 21), WIDE[sign]):
                self.check((5, 1, 10, 20), (sign, value), "none" if word == "none" else "some")
            for value, word in zip((9, 10, 11), ALIKE[sign]):
                self.check((5, 4, 10, 10), (sign, value), "none" if word == "none" else "some")

    def test_with_open_cells_alone(self):
        for sign in SIGNS:
            self.check((2, 2, None, None), (sign, 3), "none")
            self.check((1, 1, None, None), (sign, "a"), "none")
        self.check((2, 2, None, None), ("among", [3]), "none")
        self.check((2, 2, None, None), ("among", []), "none")

    def test_among(self):
        for kind in (list, tuple):
            self.check((5, 0, 10, 20), ("among", kind([])), "none")
            self.check((5, 0, 10, 20), ("among", kind([9, 21, -4])), "none")
            self.check((5, 0, 10, 20), ("among", kind([9, 10])), "some")
            self.check((5, 0, 10, 20), ("among", kind([21, 20])), "some")
            self.check((5, 0, 10, 20), ("among", kind([15])), "some")
            self.check((5, 0, 10, 20), ("among", kind(range(10, 21))), "some")
            self.check((5, 0, 10, 10), ("among", kind([9, 10, 11])), "all")
            self.check((5, 0, 10, 10), ("among", kind([9, 11])), "none")
            self.check((5, 2, 10, 10), ("among", kind([9, 10])), "some")
            self.check((5, 2, 10, 10), ("among", kind([9])), "none")
            self.check((5, 0, "a", "a"), ("among", kind(["a"])), "all")
            self.check((5, 0, "a", "c"), ("among", kind(["b"])), "some")

    def test_texts_that_are_words_of_tests(self):
        for text in ("open", "among", "=", "<>"):
            self.check((2, 0, text, text), ("=", text), "all")
            self.check((2, 0, "", "~"), ("=", text), "some")
            self.check((2, 1, text, text), ("<>", text), "none")
            self.check((2, 0, text, text), ("among", [text]), "all")
            self.assertIs(meets(text, ("=", text)), True)
            self.assertIs(meets(None, ("=", text)), False)

    def test_none_and_all_hold_of_the_cells(self):
        stretches = [[5], [None], [5, 5], [5, None], [3, 7], [7, 3, None], [4, 5, 6], [-1, 10], [6, None, 6]]
        tests = [(sign, value) for sign in SIGNS for value in range(-2, 12)]
        tests += [("open",), ("among", []), ("among", [5]), ("among", [4, 6]), ("among", [3, 4, 5, 6, 7])]
        for cells in stretches:
            for test in tests:
                word = looked(note_of(cells), test)
                met = [meets(cell, test) for cell in cells]
                self.assertIn(word, ("none", "all", "some"))
                if word != "some":
                    self.assertEqual(met, [word == "all"] * len(cells), (cells, test))


class HandedInTest(unittest.TestCase):
    def test_what_is_handed_in_is_unchanged_and_all_is_told_again(self):
        cells = [3, None, 1]
        values = [5, 1, 1]
        before = copy.deepcopy((cells, values))
        told = [(note_of(cells), meets(1, ("among", values)), looked((3, 1, 1, 3), ("among", values))) for _ in "ab"]
        self.assertEqual(told[0], told[1])
        self.assertEqual(told[0], ((3, 1, 1, 3), True, "some"))
        self.assertEqual((cells, values), before)

    def test_a_note_stays_when_the_cells_change(self):
        cells = [3, 4]
        note = note_of(cells)
        cells.append(9)
        self.assertEqual(note, (2, 0, 3, 4))


if __name__ == "__main__":
    unittest.main()
