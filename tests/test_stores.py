"""[62], [63], [2] and [3]: stores on disks that fall."""

import copy
import random
import unittest

from pillarstore.disks import Disk
from pillarstore.errors import BadRow, NoHeap, NoMoment, NoName, NoRoom, NotSound, Taken
from pillarstore.players import Player
from pillarstore.stores import Store
from pillarstore.tables import Table
from tests.plainstore import PlainStore, WatchedDisk, some_store_deed
from tests.plaintable import KINDS, some_rows
from tests.test_disks import told_by as told_by_disk
from tests.test_tables import told_by as told_by_table

ALWAYS = ("always",)
NEVER = ("not", ALWAYS)


def told_by(store):
    """The names and all that the tables tell."""
    return [(name, told_by_table(store.table(name))) for name in store.names()]


def files_of(disk):
    return {name: disk.read(name) for name in disk.names()}


# A history of all deeds: with rows and without, of two tables, pours of one heap and of several, one that leaves none.
HISTORY = [
    ("make", "b", ["number", "text"], 2), ("put", "b", [(1, "a"), (2, None), (3, "c")]), ("put", "b", []),
    ("make", "a", ["number"], 64), ("put", "a", [(7,)]), ("put", "b", [(4, "d")]),
    ("take", "b", ("cell", 0, (">", 2))), ("take", "a", NEVER), ("put", "b", [(5, "e"), (6, "f")]),
    ("pour", "b", 0, 1), ("forget", "b", 3), ("pour", "b", 0, 0), ("put", "a", [(8,), (9,)]), ("take", "a", ALWAYS),
    ("forget", "a", 3), ("pour", "a", 1, 1), ("put", "a", [(10,)]), ("forget", "a", 4), ("pour", "a", 0, 0),
    ("put", "b", [(None, None)]), ("pour", "b", 0, 2), ("take", "b", ("cell", 0, ("open",))),
]


class StoreCase(unittest.TestCase):
    def begun(self):
        self.disk, self.plain = WatchedDisk(), PlainStore()
        self.store = Store(self.disk)
        self.disk.taken()

    def check_deed(self, word, *handed):
        """Does a deed: what is told and done to the disk is as told, and so is the store behind it."""
        before = copy.deepcopy(handed)
        told = getattr(self.store, word)(*handed)
        expected, done = self.plain.do(word, *handed)
        self.assertEqual((told, handed), (expected, before), (word, handed))
        self.assertEqual(self.disk.taken(), done, (word, handed))
        self.assertEqual(files_of(self.disk), self.plain.disk_files())
        self.assertEqual(told_by(self.store), self.plain.state())

    def refused(self, error, deed, *handed):
        before = told_by(self.store), told_by_disk(self.disk), copy.deepcopy(handed)
        with self.assertRaises(error) as caught:
            deed(*handed)
        self.assertEqual(caught.exception.__class__, error)
        self.assertEqual((told_by(self.store), told_by_disk(self.disk), handed), before)
        self.assertEqual(self.disk.taken(), [])
        return caught.exception


class DeedsTest(StoreCase):
    def test_a_new_store(self):
        disk = WatchedDisk()
        store = Store(disk)
        self.assertEqual((store.names(), disk.taken(), files_of(disk)), ([], [("make", "book")], {"book": []}))

    def test_bytes_by_hand(self):
        disk = Disk()
        store = Store(disk)
        self.assertIsNone(store.make("a", ["number"], 64))
        # 0, "a" as [2, 64], one kind as 2, 0, long as 64: the sum is 1 + 6 + 195 + 12 + 5 + 390 = 609.
        make = [12, 0, 2, 64, 2, 0, 64, 97, 2, 0, 0]
        self.assertEqual((disk.read("book"), disk.steps()), (make, 12))
        self.assertEqual(store.put("a", [(5,)]), [0])
        # 1, "a", one row as 2, the file 0: the sum is 2 + 6 + 195 + 12 + 5 = 220.
        put = [10, 1, 2, 64, 2, 0, 220, 0, 0, 0]
        heap = store.table("a").heaps()[0]
        self.assertEqual(files_of(disk), {"book": make + put, "h0": heap})
        self.assertEqual(disk.steps(), 12 + 1 + len(heap) + len(put))
        self.assertEqual(store.put("a", []), [])
        # No row and no file, -1 as 1: the sum is 2 + 6 + 195 + 4 + 10 = 217.
        self.assertEqual(disk.read("book"), make + put + [10, 1, 2, 64, 0, 1, 217, 0, 0, 0])
        self.assertEqual(disk.names(), ["book", "h0"])

    def test_a_history_of_all_deeds(self):
        self.begun()
        for deed in HISTORY:
            self.check_deed(*deed)
        self.assertEqual(self.store.names(), ["b", "a"])
        self.assertEqual(self.disk.names(), ["book", "h10", "h7", "h8"])

    def test_deeds_by_chance(self):
        chance = random.Random(1)
        for _turn in range(12):
            self.begun()
            for _deed in range(40):
                self.check_deed(*some_store_deed(chance, self.plain, ("zb", "a", "abcdefgh")))

    def test_pours_that_leave_nothing_and_something_between_other_heaps(self):
        for test in (("cell", 0, ("among", [2, 3])), ("cell", 0, ("=", 2)), NEVER):
            for first, last in ((1, 1), (1, 2), (2, 2), (0, 3), (3, 3)):
                self.begun()
                self.check_deed("make", "a", ["number"], 4)
                for number in range(4):
                    self.check_deed("put", "a", [(2 if number == 1 else number + 1,)])
                self.check_deed("take", "a", test)
                self.check_deed("forget", "a", 5)
                self.check_deed("pour", "a", first, last)
                self.check_deed("put", "a", [(9,)])

    def test_a_files_number_never_comes_again(self):
        self.begun()
        self.check_deed("make", "a", ["number"], 4)
        numbers = []
        for turn in range(5):
            self.check_deed("put", "a", [(turn,)])
            self.check_deed("pour", "a", 0, min(turn, 1))
            numbers.append(self.disk.names())
        self.assertEqual(numbers, [["book", f"h{number}"] for number in (1, 3, 5, 7, 9)])

    def test_rows_and_kinds_as_lists_and_tuples(self):
        self.begun()
        self.check_deed("make", "a", ("number", "text"), 2)
        self.check_deed("put", "a", ([1, "a"], (2, "b"), [None, None]))
        self.assertEqual(self.store.table("a").rows_at(1), [(1, "a"), (2, "b"), (None, None)])

    def test_names_as_they_were_made(self):
        self.begun()
        for name in ("c", "a", "abcdefgh", "b"):
            self.check_deed("make", name, ["text"], 1)
        self.assertEqual(self.store.names(), ["c", "a", "abcdefgh", "b"])

    def test_somewhat_beyond_the_bounds_is_no_error(self):
        for name, kinds, long in (("abcdefghi", ["number"], 64), ("a", ["text"] * 9, 64), ("a", ["number"], 66)):
            disk = Disk()
            store = Store(disk)
            store.make(name, kinds, long)
            rows = [tuple([None if k % 2 else "x" if kind == "text" else k for kind in kinds]) for k in range(150)]
            store.put(name, rows)
            store.take(name, ("cell", 0, ("open",)))
            store.pour(name, 0, 0)
            again = Store(disk)
            self.assertEqual(told_by(again), told_by(store))
            self.assertEqual(again.table(name).rows_at(1), rows)


class RefusedTest(StoreCase):
    def setUp(self):
        self.begun()
        for deed in HISTORY[:11]:
            self.check_deed(*deed)

    def test_taken(self):
        self.refused(Taken, self.store.make, "b", ["number", "text"], 2)
        self.refused(Taken, self.store.make, "a", ["text"], 5)

    def test_no_name(self):
        for name in ("c", "", "B", "ab"):
            self.refused(NoName, self.store.put, name, [(1, "a")])
            self.refused(NoName, self.store.put, name, [])
            self.refused(NoName, self.store.take, name, ALWAYS)
            self.refused(NoName, self.store.pour, name, 0, 0)
            self.refused(NoName, self.store.forget, name, 0)
            self.refused(NoName, self.store.table, name)

    def test_no_name_ahead_of_what_the_table_refuses(self):
        self.refused(NoName, self.store.put, "c", [5])
        self.refused(NoName, self.store.pour, "c", 5, 1)
        self.refused(NoName, self.store.forget, "c", -1)

    def test_what_the_table_refuses(self):
        for rows, place in (([(1, "a"), (1,)], 1), ([("a", 1)], 0), ([(1, "a")] * 3 + [None], 3)):
            self.assertEqual(self.refused(BadRow, self.store.put, "b", rows).place, place)
        for first, last in ((-1, 0), (1, 0), (0, 2), (2, 2), (9, 9), (-2, -1)):
            self.refused(NoHeap, self.store.pour, "b", first, last)
        for moment in (-1, 2, 6, 10 ** 5000):
            self.refused(NoMoment, self.store.forget, "b", moment)

    def test_deeds_go_on_behind_a_refused_one(self):
        self.test_what_the_table_refuses()
        for deed in HISTORY[11:]:
            self.check_deed(*deed)


class OwnTest(StoreCase):
    def setUp(self):
        self.begun()
        for deed in HISTORY[:11]:
            self.check_deed(*deed)

    def test_a_told_table_is_the_askers_own(self):
        before, disk = told_by(self.store), told_by_disk(self.disk)
        table = self.store.table("b")
        self.assertIsInstance(table, Table)
        self.assertEqual(told_by_table(table), before[0][1])
        table.put([(1, "z")])
        table.take(ALWAYS)
        table.forget(table.now())
        table.pour(0, len(table.heaps()) - 1)
        self.assertEqual((told_by(self.store), told_by_disk(self.disk)), (before, disk))
        for deed in HISTORY[11:]:
            self.check_deed(*deed)

    def test_a_told_table_stays_as_it_was(self):
        table = self.store.table("b")
        before = told_by_table(table)
        for deed in HISTORY[11:]:
            self.check_deed(*deed)
        self.assertEqual(told_by_table(table), before)

    def test_told_lists_can_be_changed(self):
        numbers = self.store.put("b", [(1, "a"), (2, "b")])
        taken = self.store.take("b", ("cell", 1, ("=", "b")))
        before = told_by(self.store), told_by_disk(self.disk)
        for told in (numbers, taken, self.store.names(), self.store.ask(("table", "b"), {}, 6)):
            told.clear()
        self.assertEqual((told_by(self.store), told_by_disk(self.disk)), before)
        self.assertEqual(told_by(Store(self.disk)), before[0])

    def test_what_is_handed_in_is_not_kept(self):
        kinds, rows, test = ["number"], [[1], [2]], ("cell", 0, ("among", [2]))
        self.store.make("c", kinds, 2)
        self.store.put("c", rows)
        self.assertEqual(self.store.take("c", test), [1])
        self.assertEqual((kinds, rows, test), (["number"], [[1], [2]], ("cell", 0, ("among", [2]))))
        kinds.append("text")
        rows[0][0] = 9
        test[2][1].clear()
        for store in (self.store, Store(self.disk)):
            table = store.table("c")
            self.assertEqual((table.kinds(), table.rows_at(1), table.rows_at(2)), (["number"], [(1,), (2,)], [(1,)]))


class AskTest(StoreCase):
    def setUp(self):
        self.begun()
        chance = random.Random(2)
        for name in ("t", "u"):
            self.check_deed("make", name, KINDS, 4)
            for _put in range(3):
                self.check_deed("put", name, some_rows(chance, 60))
            self.check_deed("take", name, ("cell", 0, ("=", 4)))
            self.check_deed("forget", name, 1)

    def test_as_a_player(self):
        tables = {name: self.store.table(name) for name in self.store.names()}
        for question in (
            ("table", "t"), ("joined", ("table", "t"), ("table", "u"), [(0, 0), (1, 1)]),
            ("ordered", ("table", "u"), [(1, True)], 150), ("where", ("table", "t"), NEVER),
            ("windowed", ("table", "t"), [1], [(0, True)], [("rank",), ("sum", 2, 1)]),
            ("grouped", ("table", "t"), [1], [("rows",), ("sum", 0)]),
        ):
            for moments in ({}, {"t": 2}, {"t": 1, "u": 4}, {"nobody": 99}):
                for most in (6, 50, 1000):
                    expected = Player(question, tables, moments, most).next(100000)
                    self.assertEqual(self.store.ask(question, moments, most), expected)
        self.assertEqual(self.disk.taken(), [])

    def test_of_many_rows(self):
        self.assertEqual(len(self.store.ask(("table", "t"), {"t": 3}, 6)), 180)
        for many in (99, 100, 101, 180):
            question = ("ordered", ("table", "t"), [], many)
            self.assertEqual(len(self.store.ask(question, {"t": 3}, 6)), many)

    def test_refused_as_a_player(self):
        table = ("table", "t")
        far = ("windowed", table, [], [], [("ahead", 0, 2)])
        self.refused(NotSound, self.store.ask, ("table", "v"), {}, 6)
        self.refused(NotSound, self.store.ask, ("where", far, ("cell", 4, ("open",))), {"t": 0}, 6)
        self.refused(NoMoment, self.store.ask, far, {"t": 0}, 6)
        self.refused(NoMoment, self.store.ask, table, {"t": 5}, 6)
        self.refused(NoRoom, self.store.ask, far, {"u": 0}, 6)


class OpenTest(StoreCase):
    def history(self, deeds):
        """Does deeds; for each how many steps there are behind its entry, and the plain store behind it."""
        self.begun()
        self.ends = [(0, self.plain.own_copy())]
        for deed in deeds:
            before = self.disk.steps()
            expected, done = self.plain.do(*deed)
            self.assertEqual(getattr(self.store, deed[0])(*deed[1:]), expected)
            steps = [len(some[2]) if some[0] == "add" else 1 for some in done if some[0] != "drop"]
            self.ends.append((before + sum(steps), self.plain.own_copy()))

    def store_behind(self, k):
        """The plain store behind just the deeds whose entries' last bytes are among the first k steps."""
        return [plain for end, plain in self.ends if end <= k][-1]

    def check_opened(self, disk, plain):
        """Opens a store: it is as told, and just what is told is mended, step by step in order."""
        files, expected = files_of(disk), plain.disk_files()
        mended = [] if "book" in files else [("make", "book")]
        mended += [("cut", "book", len(plain.book))] if len(files.get("book", [])) > len(plain.book) else []
        mended += [("drop", name) for name in sorted(files) if name not in expected]
        watched = self.watched(disk)
        store = Store(watched)
        self.assertEqual(watched.taken(), mended)
        self.assertEqual((told_by(store), files_of(watched)), (plain.state(), expected))
        self.assertEqual(watched.steps(), disk.steps() + len(mended))
        return store, watched

    def watched(self, disk):
        """A watched disk that did all that a disk did."""
        watched = WatchedDisk()
        watched.bytes_by_name = {name: disk.read(name) for name in disk.names()}
        watched.deeds_done, watched.steps_done = list(disk.deeds_done), disk.steps()
        return watched

    def check_goes_on(self, store, disk, plain):
        """Deeds go on from there as on a store that never fell."""
        self.store, self.disk, self.plain = store, disk, plain.own_copy()
        if "b" not in self.plain.tables:
            self.check_deed("make", "b", ["number", "text"], 3)
        self.check_deed("put", "b", [(50, "x")])
        self.check_deed("take", "b", ("cell", 0, ("<", 3)))
        self.check_deed("pour", "b", 0, len(self.plain.files["b"]) - 1)
        self.check_opened(disk, self.plain)

    def test_a_disk_without_files(self):
        self.ends = []
        self.check_opened(Disk(), PlainStore())

    def test_nothing_to_mend_is_no_step(self):
        self.history(HISTORY)
        for _turn in range(2):
            store, disk = self.check_opened(self.disk, self.plain)
            self.assertEqual(disk.steps(), self.disk.steps())
        self.history([])
        self.check_opened(self.disk, self.plain)

    def test_fallen_at_each_step(self):
        self.history(HISTORY)
        whole = self.disk
        for k in range(whole.steps() + 1):
            plain = self.store_behind(k)
            store, disk = self.check_opened(whole.fallen(k), plain)
            self.check_goes_on(store, disk, plain)

    def test_a_fall_while_a_store_is_opened(self):
        self.history(HISTORY)
        mended = 0
        for k in range(self.disk.steps() + 1):
            plain = self.store_behind(k)
            fallen = self.disk.fallen(k)
            Store(fallen)
            mended = max(mended, fallen.steps() - k)
            for j in range(k, fallen.steps() + 1):
                store, disk = self.check_opened(fallen.fallen(j), plain)
            self.assertEqual(files_of(disk), files_of(fallen))
        # The greatest mending: no entry yet of a pour whose heap is there, or all poured files to be dropped.
        self.assertGreaterEqual(mended, 3)

    def test_falls_one_behind_the_other(self):
        chance = random.Random(3)
        for _turn in range(15):
            self.history([])
            self.one_more(("make", "x", KINDS, 2))
            for _fall in range(6):
                for _deed in range(6):
                    self.one_more(some_store_deed(chance, self.plain, ("x", "y")))
                k = chance.randint(self.ends[1][0], self.disk.steps())
                plain = self.store_behind(k)
                self.store, self.disk = self.check_opened(self.disk.fallen(k), plain)
                self.plain = plain.own_copy()
                self.ends = [end for end in self.ends if end[0] <= k]

    def one_more(self, deed):
        """Does one more deed, and keeps how many steps there are behind its entry."""
        self.check_deed(*deed)
        drops = 0
        while self.disk.deeds_done[-1 - drops][0] == "drop":
            drops += 1
        self.ends.append((self.disk.steps() - drops, self.plain.own_copy()))

    def test_a_wrong_sum_ends_the_book(self):
        self.history(HISTORY[:3])
        book = self.disk.read("book")
        self.disk.cut("book", len(book) - 1)
        self.disk.add("book", [(book[-1] + 1) % 256])
        plain = self.ends[2][1]
        self.check_opened(self.disk, plain)

    def test_other_files_are_dropped(self):
        self.history(HISTORY[:3])
        for name in ("x", "a", "h7", "h", "h00", "books"):
            self.disk.make(name)
        self.disk.add("h7", [1, 2, 3])
        self.check_opened(self.disk, self.plain)


if __name__ == "__main__":
    unittest.main()
