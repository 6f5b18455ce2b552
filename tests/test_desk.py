"""[71], [72] and [3]: a desk."""

import unittest

from pillarstore.desk import desk_told
from pillarstore.disks import Disk
from pillarstore.errors import BadText, StoreError
from pillarstore.stores import Store
from tests.writing import question_words, rows_text

BEGIN = ["table a 2 ntn", "put a 1 'x 5 / 2 'y - / 3 - 7 / - 'x 5", "table b 64 tn", "put b 'x 1 / 'y 2 / 'x 3"]
KINDS = {"a": ["number", "text", "number"], "b": ["text", "number"]}
A, B = ("table", "a"), ("table", "b")
SIGNS = "!\"#$&'()*+,-./0123456789:;<=>?@ABCDEFGHIJKLMNOPQRSTUVWXYZ[\\]^_`abcdefghijklmnopqrstuvwxyz{|}~"
TOP = "9" * 18


def told(*rows):
    return desk_told("\n".join(rows))


def store_behind_begin():
    """The store, and its disk, on which the deeds of BEGIN were done."""
    disk = Disk()
    store = Store(disk)
    store.make("a", KINDS["a"], 2)
    store.put("a", [(1, "x", 5), (2, "y", None), (3, None, 7), (None, "x", 5)])
    store.make("b", KINDS["b"], 64)
    store.put("b", [("x", 1), ("y", 2), ("x", 3)])
    return store, disk


class DeskCase(unittest.TestCase):
    def asked(self, words, question, rows=None, ahead=()):
        """A question behind BEGIN tells what the store tells of it, and just these rows where they are given."""
        store, _disk = store_behind_begin()
        expected = store.ask(question, {}, 6)
        self.assertEqual(told(*BEGIN, *ahead, "ask " + words), [rows_text(expected)], words)
        self.assertEqual(question_words(question), words)
        if rows is not None:
            self.assertEqual(rows_text(expected), "\n".join(rows))

    def bad(self, row, ahead=(), behind=("steps", "what is this")):
        """A row is refused, wherever it stands: the rows ahead are none that is."""
        rows = [*BEGIN, *ahead]
        told(*rows)
        for first in (0, 3):
            with self.assertRaises(BadText) as caught:
                told(*["steps"] * first, *rows, row, *behind)
            self.assertEqual(caught.exception.line, first + len(rows), row)
            self.assertEqual(caught.exception.__class__, BadText)

    def good(self, *rows):
        return told(*BEGIN, *rows)


class DeedsTest(DeskCase):
    def test_no_deeds(self):
        self.assertEqual(desk_told(""), [])
        self.assertEqual(told(*BEGIN), [])

    def test_steps_and_files(self):
        _store, disk = store_behind_begin()
        self.assertEqual(told("steps", "files"), ["1", "book"])
        self.assertEqual(told(*BEGIN, "steps", "files"), [str(disk.steps()), "book h0 h1"])
        told_files = told("table a 1 n", *["put a 1"] * 11, "files", "pour a 0 10", "files")
        self.assertEqual(told_files, ["book h0 h1 h10 h2 h3 h4 h5 h6 h7 h8 h9", "book h11"])

    def test_all_deeds_as_the_stores(self):
        store, disk = store_behind_begin()
        deeds = [
            ("put a 9 'z -1", lambda: store.put("a", [(9, "z", -1)])), ("put a", lambda: store.put("a", [])),
            ("take a 0 > 2", lambda: store.take("a", ("cell", 0, (">", 2)))),
            ("forget a 4", lambda: store.forget("a", 4)),
            ("pour a 0 1", lambda: store.pour("a", 0, 1)), ("table c 5 t", lambda: store.make("c", ["text"], 5)),
            ("put c ' / -", lambda: store.put("c", [("",), (None,)])),
        ]
        rows = []
        for row, deed in deeds:
            rows.append(row)
            deed()
            table = store.table("a")
            now = f"{table.now()} {table.oldest()} {len(table.heaps())} {len(table.marks())}"
            answers = self.good(*rows, "now a", "steps", "files", "ask from a", "ask from b")
            expected = [now, str(disk.steps()), " ".join(disk.names())]
            expected += [rows_text(store.ask(("table", name), {}, 6)) for name in "ab"]
            self.assertEqual(answers, expected, row)

    def test_now(self):
        self.assertEqual(self.good("now a", "now b"), ["1 0 1 0", "1 0 1 0"])
        rows = ["take a all", "put a", "put a 1 'a 1 / 2 'b 2", "forget a 1", "now a", "pour a 0 0", "now a"]
        self.assertEqual(self.good(*rows), ["4 1 2 4", "4 1 2 4"])
        self.assertEqual(self.good(*rows, "forget a 2", "pour a 0 0", "now a")[-1], "4 2 1 0")
        self.assertEqual(told("table q 1 n", "now q"), ["0 0 0 0"])

    def test_kinds_and_longs(self):
        for kinds in ("n", "t", "nt", "tn", "nnnnnnnn", "tntntntn"):
            cells = " ".join({"n": "7", "t": "'s"}[kind] for kind in kinds)
            for long in ("1", "2", "64"):
                rows = [f"table abcdefgh {long} {kinds}", f"put abcdefgh {cells}", "ask from abcdefgh"]
                self.assertEqual(told(*rows), [cells])

    def test_long_says_how_the_bytes_are(self):
        disk = Disk()
        store = Store(disk)
        store.make("a", ["number"], 3)
        store.put("a", [(k,) for k in range(10)])
        self.assertEqual(told("table a 3 n", "put a " + " / ".join(map(str, range(10))), "steps"), [str(disk.steps())])

    def test_somewhat_beyond_the_bounds_is_no_error(self):
        cells = " / ".join(["5"] * 70)
        for rows in (["table a 66 n", "put a " + cells], ["table a 3 nnnnnnnnn", "put a 1 2 3 4 5 6 7 8 9"]):
            answers = told(*rows, "ask from a", "fall 10000", "ask from a")
            self.assertEqual(answers[0], answers[1])
            self.assertIn("5", answers[0])


class CellsTest(DeskCase):
    def same(self, cell, kind):
        self.assertEqual(told(f"table a 4 {kind}", f"put a {cell}", "ask from a"), [cell])

    def test_open_ones(self):
        self.same("-", "n")
        self.same("-", "t")

    def test_numbers(self):
        for cell in ("0", "1", "-1", "10", "-10", "123456789", TOP, "-" + TOP, "1" + "0" * 17):
            self.same(cell, "n")

    def test_texts(self):
        self.same("'", "t")
        for sign in SIGNS:
            self.same("'" + sign, "t")
            self.same("'" + sign * 20, "t")
        for at in range(0, len(SIGNS), 20):
            self.same("'" + SIGNS[at:at + 20], "t")
        for cell in ("'-", "'0", "'/", "'|", "':", "'@", "''", "'-5", "'all"):
            self.same(cell, "t")

    def test_products_of_more_figures_than_python_tells(self):
        steps = " | ".join(["tell * 0 0"] * 9)
        answer, = told("table a 4 n", f"put a {TOP} / -{TOP} / - / 0 / -1", f"ask from a | {steps}")
        square = (10 ** 18 - 1) ** 512
        self.assertEqual(answer, rows_text([(square,), (square,), (None,), (0,), (1,)]))
        self.assertGreater(len(answer), 2 * 9000)
        answer, = told("table a 4 n", f"put a {TOP}", f"ask from a | {steps} | tell - = 0 0 0 + 0 0")
        self.assertEqual(answer, rows_text([(-square, square, 2 * square)]))

    def test_signs_that_mean_something_elsewhere(self):
        rows = ["table a 4 t", "put a '/ / '| / ': / '@ / 'only"]
        self.assertEqual(told(*rows, "ask from a | where 0 = '|"), ["'|"])
        self.assertEqual(told(*rows, "ask from a | where 0 in 2 ': '@ | tell = '| 0 = '/"), ["'| ': '/\n'| '@ '/"])


class QuestionsTest(DeskCase):
    def test_tables(self):
        self.asked("from a", A, ["1 'x 5", "2 'y -", "3 - 7", "- 'x 5"])
        self.asked("from b", B, ["'x 1", "'y 2", "'x 3"])

    def test_no_rows_tell_the_empty_text(self):
        self.asked("from a | where not all", ("where", A, ("not", ("always",))), [])
        self.assertEqual(told("table c 1 n", "ask from c", "steps", "ask from c"), ["", "12", ""])

    def test_each_test(self):
        low, high = ("cell", 0, ("<=", 1)), ("cell", 0, (">", 2))
        for words, test in (
            ("all", ("always",)), ("1 open", ("cell", 1, ("open",))), ("0 = 2", ("cell", 0, ("=", 2))),
            ("0 <> 2", ("cell", 0, ("<>", 2))), ("0 < 2", ("cell", 0, ("<", 2))), ("0 <= 2", ("cell", 0, ("<=", 2))),
            ("0 > 2", ("cell", 0, (">", 2))), ("0 >= 2", ("cell", 0, (">=", 2))), ("1 = 'x", ("cell", 1, ("=", "x"))),
            ("1 > '", ("cell", 1, (">", ""))), ("0 > -5", ("cell", 0, (">", -5))),
            ("0 = @ 2", ("cells", 0, "=", 2)), ("0 <> @ 2", ("cells", 0, "<>", 2)), ("2 > @ 0", ("cells", 2, ">", 0)),
            ("0 < @ 0", ("cells", 0, "<", 0)), ("2 >= @ 0", ("cells", 2, ">=", 0)), ("0 <= @ 2", ("cells", 0, "<=", 2)),
            ("0 in 0", ("cell", 0, ("among", []))), ("0 in 1 3", ("cell", 0, ("among", [3]))),
            ("0 in 3 1 3 1", ("cell", 0, ("among", [1, 3, 1]))), ("1 in 2 'y '", ("cell", 1, ("among", ["y", ""]))),
            ("and 0 <= 1 0 > 2", ("both", low, high)), ("or 0 <= 1 0 > 2", ("either", low, high)),
            ("not 0 > 2", ("not", high)), ("not not 0 > 2", ("not", ("not", high))),
            ("and or 0 <= 1 0 > 2 not 1 open", ("both", ("either", low, high), ("not", ("cell", 1, ("open",))))),
            ("or and all 0 in 1 2 and all 0 <= 1", (
                "either", ("both", ("always",), ("cell", 0, ("among", [2]))), ("both", ("always",), low))),
        ):
            self.asked("from a | where " + words, ("where", A, test))
            store, _disk = store_behind_begin()
            store.take("a", test)
            self.assertEqual(self.good("take a " + words, "ask from a"), [rows_text(store.ask(A, {}, 6))], words)

    def test_twelve_within_one_another(self):
        test, form = ("cell", 0, ("=", 2)), ("cell", 0)
        for turn in range(11):
            test = ("not", test) if turn % 2 else ("both", ("always",), test)
            form = ("sum", "+", form, ("cell", 2)) if turn % 2 else ("first", form, ("value", 7))
        question = ("told", ("where", A, test), [form])
        for turn in range(9):
            question = ("ordered", question, [(0, turn % 2 == 0)], None)
        self.asked(question_words(question), question)

    def test_each_form(self):
        zero, two = ("cell", 0), ("cell", 2)
        for words, forms in (
            ("0", [zero]), ("2 0 2", [two, zero, two]), ("= 5", [("value", 5)]), ("= -", [("value", None)]),
            ("= 'q", [("value", "q")]), ("= '", [("value", "")]), ("= -7 1", [("value", -7), ("cell", 1)]),
            ("+ 0 2", [("sum", "+", zero, two)]), ("- 0 2", [("sum", "-", zero, two)]),
            ("* 0 2", [("sum", "*", zero, two)]), ("first 0 2", [("first", zero, two)]),
            ("first 1 = 'q", [("first", ("cell", 1), ("value", "q"))]),
            ("- + 0 2 * 0 = -1 0", [("sum", "-", ("sum", "+", zero, two), ("sum", "*", zero, ("value", -1))), zero]),
            ("first first 2 0 - = - 0", [("first", ("first", two, zero), ("sum", "-", ("value", None), zero))]),
        ):
            self.asked("from a | tell " + words, ("told", A, forms))

    def test_joins(self):
        self.asked("from a | join b 1 0", ("joined", A, B, [(1, 0)]),
                   ["1 'x 5 'x 1", "1 'x 5 'x 3", "2 'y - 'y 2", "- 'x 5 'x 1", "- 'x 5 'x 3"])
        self.asked("from a | keep b 1 0", ("kept", A, B, [(1, 0)]))
        self.asked("from a | keep b 1 0 0 1", ("kept", A, B, [(1, 0), (0, 1)]))
        self.asked("from a | join a 2 2", ("joined", A, A, [(2, 2)]))
        self.asked("from b | keep a 0 1 | join b 1 1", ("joined", ("kept", B, A, [(0, 1)]), B, [(1, 1)]))

    def test_groups(self):
        for words, places, counts in (
            (": rows", [], [("rows",)]), ("1 :", [1], []), ("1 : rows", [1], [("rows",)]), ("1 2 :", [1, 2], []),
            ("2 : known 0 sum 0 least 1 most 1", [2], [("known", 0), ("sum", 0), ("least", 1), ("most", 1)]),
            ("0 0 : rows rows", [0, 0], [("rows",), ("rows",)]),
        ):
            self.asked("from a | group " + words, ("grouped", A, places, counts))

    def test_orders(self):
        for words, items, many in (
            ("order", [], None), ("order up 0", [(0, False)], None), ("order down 0", [(0, True)], None),
            ("order up 2 down 0", [(2, False), (0, True)], None), ("order only 2", [], 2), ("order only 0", [], 0),
            ("order down 1 only 3", [(1, True)], 3), ("order up 0 only 100", [(0, False)], 100),
        ):
            self.asked("from a | " + words, ("ordered", A, items, many))
        self.assertEqual(self.good(f"ask from a | order up 0 only {'9' * 5000} | tell 0"), ["-\n1\n2\n3"])

    def test_windows(self):
        for words, places, items, windows in (
            (": : number", [], [], [("number",)]), ("1 : : rank", [1], [], [("rank",)]),
            (": up 0 : number rank", [], [(0, False)], [("number",), ("rank",)]),
            ("1 2 : down 0 up 2 : ahead 0 1", [1, 2], [(0, True), (2, False)], [("ahead", 0, 1)]),
            (": down 2 : sum 0 1 sum 2 all", [], [(2, True)], [("sum", 0, 1), ("sum", 2, None)]),
            ("0 : down 2 : ahead 1 0 rank", [0], [(2, True)], [("ahead", 1, 0), ("rank",)]),
        ):
            self.asked("from a | window " + words, ("windowed", A, places, items, windows))

    def test_steps_one_behind_the_other(self):
        words = ("from a | where 0 > 0 | keep b 1 0 | tell 0 4 + 0 4 | window : up 2 : number | group 3 : sum 2 | "
                 "order down 0 only 2")
        inner = ("told", ("kept", ("where", A, ("cell", 0, (">", 0))), B, [(1, 0)]),
                 [("cell", 0), ("cell", 4), ("sum", "+", ("cell", 0), ("cell", 4))])
        windowed = ("windowed", inner, [], [(2, False)], [("number",)])
        self.asked(words, ("ordered", ("grouped", windowed, [3], [("sum", 2)]), [(0, True)], 2))

    def test_words_as_names(self):
        rows = ["table from 1 n", "table where 1 n", "put from 1", "put where 1 / 2", "table all 1 n"]
        asks = ["ask from from | join where 0 0", "ask from where", "now all"]
        self.assertEqual(told(*rows, *asks), ["1 1", "1\n2", "0 0 0 0"])


class RoomAndAtTest(DeskCase):
    def test_room(self):
        reach = "ask from a | window : : sum 0 {}"
        self.good(reach.format(1))
        self.bad(reach.format(2))
        for most in (6, 8, 9, 10, 100, 1000):
            self.good(f"room {most}", reach.format(most // 3 - 1))
            self.bad(reach.format(most // 3), [f"room {most}"])
        self.bad(reach.format(2), ["room 9", "room 8"])

    def test_room_across_a_fall(self):
        reach = "ask from a | window : : sum 0 {}"
        self.assertEqual(self.good("room 30", "fall 1000", reach.format(9))[0][:6], "1 'x 5")
        self.bad(reach.format(10), ["room 30", "fall 1000"])

    def test_at(self):
        rows = ["take a 0 = 1", "put a 8 'k 8"]
        ask = "ask from a | tell 0"
        for moment, expected in ((0, ""), (1, "1\n2\n3\n-"), (2, "2\n3\n-"), (3, "2\n3\n-\n8")):
            self.assertEqual(self.good(*rows, f"at a {moment}", ask), [expected])

    def test_at_is_for_the_next_ask_alone(self):
        now = "1\n2\n3\n-"
        self.assertEqual(self.good("at a 0", "ask from a | tell 0", "ask from a | tell 0"), ["", now])
        self.assertEqual(self.good("at a 0", "ask from b | tell 1", "ask from a | tell 0"), ["1\n2\n3", now])
        self.assertEqual(self.good("at a 0", "steps", "now a", "put b", "ask from a | tell 0")[-1], "")

    def test_of_several_for_one_name_the_last_one_counts(self):
        self.assertEqual(self.good("at a 0", "at a 1", "ask from a | tell 0"), ["1\n2\n3\n-"])
        self.assertEqual(self.good("at a 99", "at b 1", "at a 0", "ask from a | tell 0"), [""])

    def test_of_several_tables(self):
        answers = self.good("at a 0", "at b 0", "ask from a | keep b 1 0", "ask from b | tell 1")
        self.assertEqual(answers, ["", "1\n2\n3"])
        self.assertEqual(self.good("at b 0", "ask from a | keep b 1 0 | tell 0 3")[0], "1 -\n2 -\n3 -\n- -")

    def test_an_at_is_looked_at_by_its_words_alone(self):
        answers = self.good("at a 99", "at nobody 5", "ask from b | tell 1", "ask from a | tell 0")
        self.assertEqual(answers, ["1\n2\n3", "1\n2\n3\n-"])
        self.good("at a " + "9" * 5000, "at a 1", "ask from a")
        self.bad("ask from a", ["at a 2"])
        self.bad("ask from a", ["at a " + "9" * 5000])
        self.bad("ask from b | join a 0 1", ["at a 2"])
        self.bad("ask from a", ["forget a 1", "at a 0"])

    def test_ended_by_a_fall(self):
        self.assertEqual(self.good("at a 0", "fall 100000", "ask from a | tell 0"), ["1\n2\n3\n-"])
        self.assertEqual(self.good("at a 99", "fall 100000", "ask from a | tell 0"), ["1\n2\n3\n-"])


class FallTest(DeskCase):
    def test_each_step(self):
        store, disk = store_behind_begin()
        store.pour("a", 0, 0)
        for k in range(disk.steps() + 1):
            fallen = disk.fallen(k)
            opened = Store(fallen)
            expected = [str(fallen.steps()), " ".join(fallen.names())]
            expected += [rows_text(opened.ask(("table", name), {}, 6)) for name in opened.names()]
            asks = [f"ask from {name}" for name in opened.names()]
            self.assertEqual(self.good("pour a 0 0", f"fall {k}", "steps", "files", *asks), expected)

    def test_to_nought_and_beyond_all(self):
        self.assertEqual(self.good("fall 0", "steps", "files", "table a 1 n", "now a"), ["1", "book", "0 0 0 0"])
        steps, = self.good("steps")
        for beyond in (steps, str(int(steps) + 1), "100000", "9" * 5000):
            self.assertEqual(self.good("fall " + beyond, "steps", "now a", "now b"), [steps, "1 0 1 0", "1 0 1 0"])
        self.bad("now a", ["fall 0"])

    def test_a_fall_behind_a_fall(self):
        self.assertEqual(self.good("fall 12", "steps", "fall 0", "steps", "fall 7", "steps"), ["13", "1", "1"])

    def test_deeds_go_on_on_the_fallen_disk(self):
        steps = int(self.good("steps")[0])
        answers = self.good(f"fall {steps - 1}", "now b", "put b 'q 9", "ask from b", "files")
        self.assertEqual(answers, ["0 0 0 0", "'q 9", "book h0 h1"])


class BadTextTest(DeskCase):
    def test_blanks_and_empty_rows(self):
        for row in ("", " ", "  ", "steps ", " steps", "now  a", "put a 1 'x  5", "ask from a ", "\tsteps", "steps\t",
                    "now\ta", "steps\r", "now a\u00a0"):
            self.bad(row)

    def test_a_line_feed_at_the_end_is_an_empty_row(self):
        for text, line in (("\n", 0), ("steps\n", 1), ("steps\nsteps\n", 2), ("steps\n\nsteps", 1), ("\nsteps", 0)):
            with self.assertRaises(BadText) as caught:
                desk_told(text)
            self.assertEqual(caught.exception.line, line)

    def test_other_words(self):
        for row in ("stop", "Steps", "STEPS", "tables a 1 n", "-", "'", "5", "drop a", "make a 1 n", "from a"):
            self.bad(row)

    def test_words_too_few_or_too_many(self):
        for row in (
            "table", "table c", "table c 4", "table c 4 n n", "table c 4 n t", "put", "take", "take a",
            "take a all all", "pour", "pour a", "pour a 0", "pour a 0 0 0", "forget", "forget a", "forget a 0 0",
            "room", "room 6 6", "at", "at a", "at a 0 0", "fall", "fall 0 0", "now", "now a b", "now a 0",
            "steps 1", "files a", "ask",
        ):
            self.bad(row)

    def test_names(self):
        for name in ("abcdefghi", "A", "aB", "a1", "1", "a_b", "-", "'a", "a-", "\u00e4", "a\u00e4", "*"):
            self.bad(f"table {name} 4 n")
            self.bad(f"at {name} 0")
            self.bad(f"ask from {name}")
            self.bad(f"put {name}")
        self.good("table abcdefgh 4 n", "at abcdefgh 0", "put abcdefgh")

    def test_numbers_that_are_no_cells(self):
        for number in ("00", "01", "-0", "-1", "+1", "+0", "1.0", "1e1", "a", "-", "'1", "\u0661", "\u00b2", "1_0"):
            for row in (
                f"table c {number} n", f"pour a {number} 0", f"pour a 0 {number}", f"forget a {number}",
                f"room {number}", f"at a {number}", f"fall {number}", f"take a {number} open", f"take a 0 = @ {number}",
                f"take a 0 in {number} 1", f"ask from a | tell {number}", f"ask from a | join b {number} 0",
                f"ask from a | join b 1 {number}", f"ask from a | group {number} : rows",
                f"ask from a | group : known {number}", f"ask from a | order up {number}",
                f"ask from a | order only {number}", f"ask from a | window {number} : : rank",
                f"ask from a | window : up {number} : rank", f"ask from a | window : : ahead {number} 1",
                f"ask from a | window : : sum 0 {number}",
            ):
                self.bad(row)

    def test_numbers_of_any_size_that_are_not_there(self):
        far = "9" * 5000
        for row in (
            f"pour a 0 {far}", f"pour a {far} {far}", f"forget a {far}", f"room {far}", f"take a {far} open",
            f"take a 0 in {far} 1", f"ask from a | tell {far}", f"ask from a | window : : sum 0 {far}",
        ):
            self.bad(row)

    def test_cells(self):
        for cell in (
            "00", "01", "-0", "-01", "+1", "--1", "1-", "1" + "0" * 18, "-1" + "0" * 18, "9" * 5000, "1.5", "x", "x'",
            "\u0661", "%", "/x", "5'",
        ):
            self.bad(f"put a {cell} 'x 5")
            self.bad(f"take a 0 = {cell}")
            self.bad(f"ask from a | where 0 = {cell}")
            self.bad(f"ask from a | tell = {cell}")
        for cell in ("'" + "x" * 21, "'%", "'a%b", "'\u00e4", "'\t", "'\r", "'a\x7f", "'\u00a0", "\"x\"", "\u2019x"):
            self.bad(f"put a 1 {cell} 5")
            self.bad(f"take a 1 = {cell}")
            self.bad(f"take a 1 in 1 {cell}")
            self.bad(f"ask from a | tell = {cell}")

    def test_kinds(self):
        for kinds in ("x", "nx", "N", "number", "n,t", "'n", "-"):
            self.bad(f"table c 4 {kinds}")

    def test_rooms(self):
        for most in ("0", "1", "5", "1001", "9999"):
            self.bad(f"room {most}")
        self.good("room 6", "room 1000")

    def test_puts(self):
        for rows in (
            "1 'x 5 / / 2 'y 6", "/", "/ 1 'x 5", "1 'x 5 /", "1 'x 5 / /", "1 'x", "1 'x 5 7", "1 'x 5 / 2", "'x 1 5",
            "1 2 3", "1 'x 5/ 2 'y 6", "1 'x 5, 2", "1 'x 5 | 2 'y 6",
        ):
            self.bad("put a " + rows)
        self.bad("put c")
        self.bad("put c 1")

    def test_tests(self):
        for test in (
            "", "ALL", "all 0", "0", "open", "0 opens", "0 open 1", "0 =", "0 = 1 2", "0 == 1", "0 != 1", "0 = -",
            "0 = 'x", "1 = 5", "0 in", "0 in 1", "0 in 2 1", "0 in 1 1 2", "0 in 0 1", "0 in 1 -", "0 in 1 'x",
            "0 in -1", "0 in x 1", "0 = @", "0 = @ 1", "0 = @ 3", "0 = @ 0 0", "0 @ = 0", "3 open", "99 = 1", "and all",
            "or all", "and all all all", "not", "not all all", "and", "both all all", "always", "0 among 1 1",
            "0 = @ '1", "@ 0 = 1",
        ):
            self.bad(f"take a {test}".strip())
            self.bad(f"ask from a | where {test}".strip())

    def test_questions(self):
        for question in (
            "a", "from", "from a b", "from a |", "from a | |", "| from a", "from a where all", "from a | from b",
            "from a | all", "from a | Where all", "from a |where all", "from a | where all |", "table a", "from c",
            "from a | where all | where", "from a || where all",
        ):
            self.bad("ask " + question)

    def test_tells(self):
        for forms in (
            "", "3", "x", "=", "= = 1", "+ 0", "+ 0 1", "+ 1 1", "* 0 = 'x", "/ 0 2", "first 0", "first 0 1",
            "first 1 = 5", "first 1 = -", "0 : 2", "- 0", "-1", "value 5", "sum + 0 2", "'x",
        ):
            self.bad(f"ask from a | tell {forms}".strip())

    def test_joins(self):
        for word in ("join", "keep"):
            for join in ("", "b", "b 1", "b 1 0 0", "b 0 0", "b 3 0", "b 1 2", "c 1 0", "1 0", "b 1 0 x 1", "b : 1 0"):
                self.bad(f"ask from a | {word} {join}".strip())

    def test_groups(self):
        for group in (
            "", ":", "0", "0 rows", ": rows 0", ": row", ": known", ": known 3", ": sum 1", ": sum", "3 : rows",
            "0 : rows : rows", ": : rows", "x : rows", ": least", ": most x", ": count", "0 : 1", ": rows : ",
        ):
            self.bad(f"ask from a | group {group}")

    def test_orders(self):
        for order in (
            "0", "up", "down", "up 3", "up x", "asc 0", "only", "only -1", "only x", "only 1 2", "only 1 up 0",
            "up 0 only", "up 0 down", "only 1 only 1", "up 0 0", "all", "only all",
        ):
            self.bad(f"ask from a | order {order}")

    def test_windows(self):
        for window in (
            "", ": number", ": :", "number", ": : numbers", ": : number 0", ": : rank 1", ": : ahead", ": : ahead 0",
            ": : ahead 0 all", ": : ahead 0 -1", ": : sum 1 0", ": : sum 0", ": : sum 3 0", ": : sum 0 ALL",
            "3 : : rank", ": up : rank", ": 0 : rank", ": up 3 : rank", ": : rank :", ": : : rank", "x : : rank",
            ": only 1 : rank", ": : sum 0 2", ": : ahead 0 2",
        ):
            self.bad(f"ask from a | window {window}".strip())

    def test_refusals_of_deeds(self):
        for row in (
            "table a 4 n", "table b 64 tn", "take c all", "pour c 0 0", "pour a 0 1", "pour a 1 1", "pour a 1 0",
            "forget c 0", "forget a 2", "now c", "ask from c", "ask from a | join c 0 0",
        ):
            self.bad(row)
        self.bad("forget a 0", ["forget a 1"])

    def test_rows_behind_are_not_looked_at(self):
        with self.assertRaises(BadText) as caught:
            told("steps", "no such deed", "", "nor this one", "table a 1 n")
        self.assertEqual(caught.exception.line, 1)
        self.assertIsInstance(caught.exception, StoreError)

    def test_each_desk_is_its_own(self):
        self.assertEqual(told("table a 1 n", "put a 1", "ask from a"), ["1"])
        self.assertEqual(told("table a 1 n", "ask from a", "steps"), ["", "12"])
        answers = told("steps", "files")
        answers.clear()
        self.assertEqual(told("steps", "files"), ["1", "book"])


if __name__ == "__main__":
    unittest.main()
