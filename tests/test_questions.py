"""[42] and [43]: the kinds of questions, and questions that are not sound."""

import copy
import unittest

from pillarstore.errors import NotSound
from pillarstore.questions import kinds_of
from tests.support import TOP

N, T = "number", "text"
KINDS = {"t": [N, T, N], "u": [T, N], "one": [T]}
TABLE = ("table", "t")
OTHER = ("table", "u")
ALWAYS = ("always",)
SIGNS = ("=", "<>", "<", "<=", ">", ">=")

# What is neither a word, a question, a test, a form, a list, a place, a count, a name nor a cell.
NOTHINGS = (True, False, 1.5, {}, {"t": 1}, {0}, b"t", object())
NO_CELLS = (10 ** 18, -(10 ** 18), 10 ** 40, "x" * 21, "a%", "a\n", "\x7f", "\xe9", (5,), [5], *NOTHINGS)
NO_PLACES = (3, 4, -1, -3, None, "0", (0,), [0], *NOTHINGS)
NO_LISTS = (None, 0, 5, "ab", "", *NOTHINGS)
NO_TUPLES = (None, 0, 5, "always", "", [], [("always",)], *NOTHINGS)


def told(*forms):
    return ("told", TABLE, list(forms))


def where(test):
    return ("where", TABLE, test)


def where_cell(place, cell_test):
    return where(("cell", place, cell_test))


def grouped(places, counts):
    return ("grouped", TABLE, places, counts)


def windowed(*windows):
    return ("windowed", TABLE, [0], [(2, True)], list(windows))


class KindsOfTest(unittest.TestCase):
    def check(self, question, kinds):
        self.assertEqual(kinds_of(question, KINDS), kinds, question)

    def test_table_and_where(self):
        self.check(TABLE, [N, T, N])
        self.check(OTHER, [T, N])
        self.check(("where", OTHER, ALWAYS), [T, N])
        self.check(("where", ("where", OTHER, ALWAYS), ("not", ALWAYS)), [T, N])

    def test_each_word_of_tests(self):
        for sign in SIGNS:
            for place, value in ((0, 5), (0, -TOP), (2, TOP), (1, ""), (1, "x" * 20), (1, "~ $&")):
                self.check(where_cell(place, (sign, value)), [N, T, N])
            for place, other in ((0, 2), (2, 0), (1, 1), (0, 0)):
                self.check(where(("cells", place, sign, other)), [N, T, N])
        for place in (0, 1, 2):
            self.check(where_cell(place, ("open",)), [N, T, N])
            self.check(where_cell(place, ("among", [])), [N, T, N])
        self.check(where_cell(0, ("among", [5, -TOP, TOP])), [N, T, N])
        self.check(where_cell(1, ("among", ("", "b"))), [N, T, N])
        inner = ("either", ALWAYS, ("both", ("cell", 0, ("open",)), ("not", ("cells", 0, "=", 2))))
        self.check(where(("not", inner)), [N, T, N])

    def test_each_word_of_forms(self):
        self.check(told(("cell", 1)), [T])
        self.check(told(("cell", 2), ("cell", 1), ("cell", 1)), [N, T, T])
        self.check(told(("value", 5), ("value", "a"), ("value", None), ("value", -TOP), ("value", "")), [N, T, N, N, T])
        for sign in "+-*":
            self.check(told(("sum", sign, ("cell", 0), ("value", None))), [N])
        self.check(told(("first", ("cell", 1), ("value", "a"))), [T])
        self.check(told(("first", ("value", None), ("cell", 0)), ("first", ("cell", 0), ("value", None))), [N, N])
        nested = ("sum", "*", ("first", ("cell", 0), ("value", 1)), ("sum", "-", ("cell", 2), ("value", 7)))
        self.check(("told", OTHER, (("first", ("cell", 0), ("first", ("cell", 0), ("value", "z"))),)), [T])
        self.check(told(nested), [N])

    def test_joins(self):
        for word in ("joined", "kept"):
            self.check((word, TABLE, OTHER, [(1, 0)]), [N, T, N, T, N])
            self.check((word, OTHER, TABLE, ([0, 1], (1, 2))), [T, N, N, T, N])
            self.check((word, ("told", TABLE, [("cell", 1)]), ("table", "one"), [(0, 0)]), [T, T])
            self.check((word, TABLE, TABLE, [(0, 2), (2, 0), (1, 1), (1, 1)]), [N, T, N, N, T, N])

    def test_grouped(self):
        self.check(grouped([], [("rows",)]), [N])
        self.check(grouped([1], []), [T])
        self.check(grouped((2, 1, 1), ()), [N, T, T])
        counts = [("rows",), ("known", 1), ("sum", 2), ("least", 1), ("most", 1), ("least", 0), ("most", 2)]
        self.check(grouped([1], counts), [T, N, N, N, T, T, N, N])

    def test_ordered(self):
        for many in (None, 0, 1, 500, 10 ** 6):
            self.check(("ordered", OTHER, [(0, True), (1, False)], many), [T, N])
            self.check(("ordered", OTHER, (), many), [T, N])
        self.check(("ordered", OTHER, ([0, True], (0, False)), None), [T, N])

    def test_windowed(self):
        windows = [("number",), ("rank",), ("ahead", 1, 0), ("ahead", 0, 7), ("sum", 2, None), ("sum", 0, 0)]
        self.check(windowed(*windows), [N, T, N, N, N, T, N, N, N])
        self.check(("windowed", OTHER, (), (), (("number",),)), [T, N, N])
        self.check(("windowed", OTHER, [0, 0, 1], [[0, False], (1, True)], [("ahead", 0, 1)]), [T, N, T])

    def test_within_one_another(self):
        question = ("grouped", ("joined", where(ALWAYS), ("ordered", OTHER, [], None), [(1, 0)]), [3], [("sum", 4)])
        self.check(question, [T, N])
        question = ("told", ("windowed", question, [0], [], [("rank",)]), [("cell", 2), ("cell", 0)])
        self.check(question, [N, T])
        for _turn in range(30):
            question = ("where", question, ("not", ALWAYS))
        self.check(question, [N, T])

    def test_kinds_as_tuples(self):
        self.assertEqual(kinds_of(("joined", ("table", "a"), ("table", "a"), [(0, 0)]), {"a": (N,)}), [N, N])


class NotSoundCase(unittest.TestCase):
    def refused(self, *questions):
        for question in questions:
            with self.assertRaises(NotSound, msg=repr(question)):
                kinds_of(question, KINDS)


class WordsTest(NotSoundCase):
    def test_what_is_no_question(self):
        for thing in (*NO_TUPLES, (), (None,), ("t",), (("table", "t"),), ["table", "t"]):
            self.refused(thing, ("where", thing, ALWAYS), ("told", thing, [("value", 5)]))
            self.refused(("grouped", thing, [], [("rows",)]), ("ordered", thing, [], None))
            self.refused(("windowed", thing, [], [], [("rank",)]))
            self.refused(("joined", thing, OTHER, [(1, 0)]), ("kept", TABLE, thing, [(1, 0)]))

    def test_words_that_are_none(self):
        for word in ("Table", "tables", "", "always", "cell", "sum", None, 5, ("table",), ["table"], *NOTHINGS):
            self.refused((word, "t"), (word, TABLE, ALWAYS), (word, TABLE, OTHER, [(1, 0)]), (word, TABLE, [], [], []))
            if word != "always":
                self.refused(where((word,)), where((word, ALWAYS)))
            if word != "cell":
                self.refused(told((word, 0)), where((word, 0, ("open",))))
            if word != "sum":
                self.refused(told((word, "+", ("cell", 0), ("cell", 0))))
                self.refused(grouped([], [(word, 0)]), windowed((word, 0, 1)))
            self.refused(where_cell(0, (word,)), where_cell(0, (word, 5)), grouped([], [(word,)]), windowed((word,)))

    def test_lengths(self):
        for question in (
            TABLE, where(ALWAYS), told(("cell", 0)), grouped([0], []), ("ordered", TABLE, [], None),
            ("joined", TABLE, OTHER, [(1, 0)]), ("kept", TABLE, OTHER, [(1, 0)]), windowed(("rank",)),
        ):
            kinds_of(question, KINDS)
            self.refused(question + (None,), question + ([],), question[:-1], question[:1], list(question))
        for test in (
            ALWAYS, ("cell", 0, ("open",)), ("cells", 0, "=", 2), ("both", ALWAYS, ALWAYS), ("either", ALWAYS, ALWAYS),
            ("not", ALWAYS),
        ):
            kinds_of(where(test), KINDS)
            for wrong in (test + (None,), test + (ALWAYS,), test[:-1], list(test)):
                self.refused(where(wrong), where(("not", wrong)))
                self.refused(where(("both", ALWAYS, wrong)), where(("either", wrong, ALWAYS)))
        for test in (("open",), ("=", 5), ("among", [5])):
            self.refused(where_cell(0, test + (5,)), where_cell(0, test[:-1]), where_cell(0, list(test)))
        cell = ("cell", 0)
        for form in (cell, ("value", 5), ("sum", "+", cell, cell), ("first", cell, cell)):
            kinds_of(told(form), KINDS)
            for wrong in (form + (None,), form + (cell,), form[:-1], list(form)):
                self.refused(told(wrong), told(cell, wrong), told(("first", cell, wrong)))
        for count in (("rows",), ("known", 0), ("sum", 0), ("least", 0), ("most", 0)):
            self.refused(grouped([0], [count + (0,)]), grouped([0], [count[:-1]]), grouped([0], [list(count)]))
        for window in (("number",), ("rank",), ("ahead", 0, 1), ("sum", 0, 1)):
            self.refused(windowed(window + (0,)), windowed(window[:-1]), windowed(list(window)))

    def test_names(self):
        for name in ("v", "", "T", "t ", None, 5, ("t",), ["t"], *NOTHINGS):
            wrong = ("table", name)
            self.refused(wrong, ("where", wrong, ALWAYS), ("joined", TABLE, wrong, [(1, 0)]))
        with self.assertRaises(NotSound):
            kinds_of(TABLE, {})


class TestsTest(NotSoundCase):
    def test_what_is_no_test(self):
        for thing in (*NO_TUPLES, (), (None,), (ALWAYS,)):
            self.refused(where(thing), where(("not", thing)), where_cell(0, thing))
            self.refused(where(("both", thing, ALWAYS)), where(("both", ALWAYS, thing)))
            self.refused(where(("either", thing, ALWAYS)), where(("either", ALWAYS, thing)))

    def test_places(self):
        for place in NO_PLACES:
            self.refused(where_cell(place, ("open",)), where(("cells", place, "=", 0)), where(("cells", 0, "=", place)))

    def test_signs(self):
        for sign in ("==", "!", "=<", "", "among", "open", None, 5, ("=",), ["="], *NOTHINGS):
            self.refused(where(("cells", 0, sign, 2)))
            if sign != "among":
                self.refused(where_cell(0, (sign, 5)))

    def test_cells_of_unlike_kinds(self):
        for sign in SIGNS:
            self.refused(where(("cells", 0, sign, 1)), where(("cells", 1, sign, 2)))

    def test_values(self):
        for value in (*NO_CELLS, None):
            for sign in SIGNS:
                self.refused(where_cell(0, (sign, value)), where_cell(1, (sign, value)))
            self.refused(where_cell(0, ("among", [value])), where_cell(1, ("among", [value])))
            self.refused(where_cell(0, ("among", [5, value, 6])), where_cell(1, ("among", ("a", value))))

    def test_values_of_another_kind(self):
        for sign in SIGNS:
            self.refused(where_cell(0, (sign, "5")), where_cell(0, (sign, "")))
            self.refused(where_cell(1, (sign, 5)), where_cell(1, (sign, 0)))
        self.refused(where_cell(0, ("among", ["a"])), where_cell(1, ("among", [5])), where_cell(1, ("among", ["a", 5])))

    def test_among_what_is_no_list(self):
        for thing in NO_LISTS:
            self.refused(where_cell(0, ("among", thing)), where_cell(1, ("among", thing)))


class FormsTest(NotSoundCase):
    def test_what_is_no_form(self):
        for thing in (*NO_TUPLES, (), (None,), (("cell", 0),)):
            self.refused(told(thing), told(("cell", 0), thing), told(("sum", "+", thing, ("cell", 0))))
            self.refused(told(("sum", "+", ("cell", 0), thing)), told(("first", thing, ("cell", 0))))
            self.refused(told(("first", ("cell", 0), thing)))

    def test_no_forms_and_no_list_of_them(self):
        self.refused(told(), ("told", TABLE, ()))
        for thing in NO_LISTS:
            self.refused(("told", TABLE, thing))

    def test_places(self):
        for place in NO_PLACES:
            self.refused(told(("cell", place)), told(("first", ("cell", 0), ("cell", place))))

    def test_values_that_are_no_cells(self):
        for thing in NO_CELLS:
            self.refused(told(("value", thing)), told(("sum", "+", ("value", thing), ("cell", 0))))

    def test_signs(self):
        for sign in ("/", "", "**", "//", "=", "+ ", None, 5, ("+",), ["+"], *NOTHINGS):
            self.refused(told(("sum", sign, ("cell", 0), ("cell", 0))))

    def test_sums_of_texts(self):
        for sign in "+-*":
            for text in (("cell", 1), ("value", "a"), ("first", ("cell", 1), ("cell", 1))):
                self.refused(told(("sum", sign, text, ("cell", 0))), told(("sum", sign, ("cell", 0), text)))
                self.refused(told(("sum", sign, text, text)))

    def test_first_of_unlike_kinds(self):
        self.refused(told(("first", ("cell", 0), ("cell", 1))), told(("first", ("cell", 1), ("cell", 0))))
        self.refused(told(("first", ("cell", 1), ("value", None))), told(("first", ("value", None), ("value", "a"))))


class StepsTest(NotSoundCase):
    def test_pairs(self):
        for word in ("joined", "kept"):
            self.refused((word, TABLE, OTHER, []), (word, TABLE, OTHER, ()))
            for thing in NO_LISTS:
                self.refused((word, TABLE, OTHER, thing), (word, TABLE, OTHER, [thing]))
                self.refused((word, TABLE, OTHER, [(1, 0), thing]))
            self.refused((word, TABLE, OTHER, [(1,)]), (word, TABLE, OTHER, [(1, 0, 0)]), (word, TABLE, OTHER, [()]))
            self.refused((word, TABLE, OTHER, (1, 0)))
            for place in NO_PLACES:
                self.refused((word, TABLE, TABLE, [(place, 0)]), (word, TABLE, TABLE, [(0, place)]))
            self.refused((word, TABLE, OTHER, [(1, 2)]), (word, OTHER, TABLE, [(2, 1)]))

    def test_pairs_of_unlike_kinds(self):
        for word in ("joined", "kept"):
            self.refused(*[(word, TABLE, OTHER, pairs) for pairs in ([(0, 0)], [(1, 1)], [(1, 0), (1, 1)])])

    def test_groups(self):
        self.refused(grouped([], []), grouped((), ()))
        for thing in NO_LISTS:
            self.refused(grouped(thing, [("rows",)]), grouped([0], thing))
        for place in NO_PLACES:
            self.refused(grouped([place], []), grouped([0, place], [("rows",)]))
            self.refused(*[grouped([0], [(word, place)]) for word in ("known", "sum", "least", "most")])
        for thing in (*NO_TUPLES, (), (None,)):
            self.refused(grouped([0], [thing]), grouped([0], [("rows",), thing]))
        self.refused(grouped([0], [("sum", 1)]), grouped([], [("rows",), ("sum", 1)]))

    def test_orders(self):
        for thing in NO_LISTS:
            self.refused(("ordered", TABLE, thing, None), ("ordered", TABLE, [thing], None))
        for place in NO_PLACES:
            self.refused(("ordered", TABLE, [(place, True)], None))
            self.refused(("ordered", TABLE, [(0, True), (place, False)], None))
        for down in (0, 1, None, "", "down", (), [True], 1.0):
            self.refused(("ordered", TABLE, [(0, down)], None), ("ordered", TABLE, [(0, True), (1, down)], None))
        for item in ((0,), (0, True, True), (), (True, 0), [0], (True, True)):
            self.refused(("ordered", TABLE, [item], None))
        for many in (-1, -500, "5", (5,), [], *NOTHINGS):
            self.refused(("ordered", TABLE, [], many), ("ordered", TABLE, [(0, True)], many))

    def test_windows(self):
        self.refused(windowed(), ("windowed", TABLE, [], [], ()))
        for thing in NO_LISTS:
            self.refused(("windowed", TABLE, thing, [], [("rank",)]), ("windowed", TABLE, [], thing, [("rank",)]))
            self.refused(("windowed", TABLE, [], [], thing), ("windowed", TABLE, [], [thing], [("rank",)]))
        for thing in (*NO_TUPLES, (), (None,)):
            self.refused(windowed(thing), windowed(("rank",), thing))
        for place in NO_PLACES:
            self.refused(("windowed", TABLE, [place], [], [("rank",)]))
            self.refused(("windowed", TABLE, [], [(place, True)], [("rank",)]))
            self.refused(windowed(("ahead", place, 1)), windowed(("sum", place, 1)), windowed(("sum", place, None)))
        self.refused(("windowed", TABLE, [], [(0, 1)], [("rank",)]), ("windowed", TABLE, [], [(0, None)], [("rank",)]))
        for k in (-1, -500, "5", (5,), [], *NOTHINGS):
            self.refused(windowed(("ahead", 0, k)), windowed(("sum", 0, k)))
        self.refused(windowed(("ahead", 0, None)), windowed(("sum", 1, 1)), windowed(("sum", 1, None)))

    def test_what_is_not_sound_within(self):
        for wrong in (told(("cell", 3)), where_cell(0, ("=", "a")), grouped([], []), ("table", "v")):
            self.refused(("where", wrong, ALWAYS), ("ordered", ("where", wrong, ALWAYS), [], None))
            self.refused(("joined", TABLE, wrong, [(1, 0)]), ("kept", wrong, OTHER, [(1, 0)]))

    def test_the_places_are_those_of_the_question_within(self):
        narrow = told(("cell", 1))
        kinds_of(("where", narrow, ("cell", 0, ("=", "a"))), KINDS)
        self.refused(("where", narrow, ("cell", 1, ("=", "a"))), ("where", narrow, ("cell", 0, ("=", 5))))
        kinds_of(("ordered", ("joined", TABLE, OTHER, [(1, 0)]), [(4, True)], None), KINDS)
        self.refused(("ordered", ("joined", TABLE, OTHER, [(1, 0)]), [(5, True)], None))


class OwnTest(unittest.TestCase):
    def test_what_is_handed_in_stays(self):
        question = ("grouped", ("joined", TABLE, where_cell(0, ("among", [1, 2])), [[1, 1]]), [0], [("rows",)])
        kinds = copy.deepcopy(KINDS)
        before = copy.deepcopy(question)
        kinds_of(question, kinds)
        self.assertEqual((question, kinds), (before, KINDS))

    def test_what_is_told_is_the_askers_own(self):
        kinds = {"t": [N, T]}
        for question in (("table", "t"), ("where", ("table", "t"), ALWAYS), ("ordered", ("table", "t"), [], None)):
            kinds_of(question, kinds).append("more")
            self.assertEqual(kinds_of(question, kinds), [N, T])
        self.assertEqual(kinds, {"t": [N, T]})


if __name__ == "__main__":
    unittest.main()
