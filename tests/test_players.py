"""[56], [57], [42], [44], [2] and [3]: questions played."""

import copy
import random
import unittest

from pillarstore.askings import Asking
from pillarstore.errors import NoMoment, NoRoom, NotSound
from pillarstore.groupers import Grouper
from pillarstore.orderers import Orderer
from pillarstore.plainly import rows_of
from pillarstore.players import Player
from pillarstore.rooms import Parts, Room
from pillarstore.tables import Table
from tests.plaintable import KINDS, PlainTable, some_deed, some_rows
from tests.somequestions import some_question
from tests.support import HUGE
from tests.test_tables import told_by

T, U = ("table", "t"), ("table", "u")
ALWAYS = ("always",)
RISING = [(0, False)]


def some_tables(chance, deeds):
    """Two tables of many puts, takes, pours and forgets."""
    tables = {}
    for name in ("t", "u"):
        long = chance.choice([1, 2, 3, 7, 64])
        tables[name], plain = Table(KINDS, long), PlainTable(KINDS, long)
        for _deed in range(deeds):
            deed, handed = some_deed(chance, plain)
            getattr(tables[name], deed)(*handed)
            getattr(plain, deed)(*handed)
        tables[name].put(some_rows(chance, 12))
    return tables


def kinds_by_name(tables):
    return {name: table.kinds() for name, table in tables.items()}


def told_plainly(question, tables, moments):
    """The rows of a question by the plain reading of the rows that are there."""
    rows = {name: table.rows_at(moments.get(name, table.now())) for name, table in tables.items()}
    return rows_of(question, kinds_by_name(tables), rows)


def told_by_batches(player, many):
    """All rows, asked for so many at a time; the last answer is the first that is shorter."""
    rows, some = [], [None] * many
    while len(some) == many:
        some = player.next(many)
        rows += some
    return rows


def table_of_numbers(numbers, long=2):
    """A table of one heap: each number, it as a text, and it again."""
    table = Table(KINDS, long)
    table.put([(number, f"x{number}", number) for number in numbers])
    return table


class PlayerCase(unittest.TestCase):
    def check(self, question, tables, moments, most, many):
        """All rows by batches are the plain reading's, within the rooms, and nothing stays in parts."""
        player = Player(question, tables, moments, most)
        self.assertEqual((player.reads(), player.parts()), ([], []))
        self.assertEqual(told_by_batches(player, many), told_plainly(question, tables, moments), question)
        self.assertLessEqual(player.peak(), most)
        self.assertEqual(player.parts(), [])
        told = player.peak(), player.reads()
        for further in (1, 3, 100):
            self.assertEqual(player.next(further), [])
        self.assertEqual((player.peak(), player.reads(), player.parts()), (*told, []))

    def check_all(self, question, tables, moments):
        for most in (6, 7, 20, 1000):
            for many in (1, 2, 7, 5000):
                self.check(question, tables, moments, most, many)


class EachWordTest(PlayerCase):
    def setUp(self):
        self.tables = some_tables(random.Random(1), 12)

    def test_tables(self):
        for question in (T, U):
            self.check_all(question, self.tables, {})

    def test_wheres(self):
        test = ("either", ("cell", 0, (">", 1)), ("cell", 1, ("open",)))
        for question in (("where", T, test), ("where", ("where", T, test), ("cells", 0, "<=", 2))):
            self.check_all(question, self.tables, {})

    def test_tolds(self):
        forms = [("sum", "-", ("cell", 2), ("cell", 0)), ("value", "a"), ("first", ("cell", 0), ("value", 9))]
        for inner in (T, ("where", T, ("cell", 1, ("<>", "a"))), ("ordered", T, RISING, None), ("told", T, forms)):
            kept = forms if inner[0] != "told" else [("cell", 1), ("cell", 0), ("cell", 1)]
            self.check_all(("told", inner, kept), self.tables, {})
        self.check_all(("told", T, [("value", 5)]), self.tables, {})

    def test_joined_and_kept(self):
        for word in ("joined", "kept"):
            for pairs in ([(0, 0)], [(1, 1), (0, 2)]):
                self.check_all((word, T, U, pairs), self.tables, {})
                self.check_all((word, T, T, pairs), self.tables, {})
                self.check_all((word, ("where", T, ("cell", 0, ("open",))), U, pairs), self.tables, {})
            inner = ("told", U, [("cell", 1), ("cell", 2)])
            self.check_all((word, inner, (word, T, U, [(0, 0)]), [(1, 3)]), self.tables, {})

    def test_grouped(self):
        counts = [("rows",), ("known", 1), ("sum", 0), ("least", 1), ("most", 2)]
        for places in ([], [0], [1, 2]):
            self.check_all(("grouped", T, places, counts), self.tables, {})
        self.check_all(("grouped", ("grouped", U, [0, 1], counts), [1], [("sum", 2)]), self.tables, {})
        self.check_all(("grouped", ("where", U, ("not", ALWAYS)), [], counts), self.tables, {})
        self.check_all(("grouped", ("where", U, ("not", ALWAYS)), [0], counts), self.tables, {})

    def test_ordered(self):
        for items in ([], RISING, [(1, True), (0, False)]):
            for many in (None, 0, 1, 5, 12, 5000):
                self.check_all(("ordered", T, items, many), self.tables, {})
        self.check_all(("ordered", ("ordered", T, RISING, 9), [(2, True)], 4), self.tables, {})

    def test_windowed(self):
        windows = [("number",), ("rank",), ("ahead", 1, 1), ("sum", 0, 1), ("sum", 2, None)]
        for places, items in (([], []), ([1], [(0, True)]), ([0, 1], [(2, False)])):
            self.check_all(("windowed", T, places, items, windows), self.tables, {})
        self.check_all(("windowed", ("windowed", U, [1], [], windows), [], [(3, True)], windows[:3]), self.tables, {})

    def test_twelve_within_one_another(self):
        question = T
        for turn in range(11):
            question = ("where", question, ALWAYS) if turn % 2 else ("ordered", question, [(turn % 3, True)], None)
        self.check_all(question, self.tables, {})

    def test_numbers_of_any_size(self):
        question = ("told", T, [("first", ("cell", 0), ("value", 10 ** 18 - 1)), ("value", 10 ** 18 - 1)])
        for _turn in range(9):
            question = ("told", question, [("sum", "*", ("cell", 0), ("cell", 1)), ("cell", 0)])
        self.check_all(("grouped", question, [0], [("sum", 1), ("rows",)]), self.tables, {})
        self.check_all(("joined", question, question, [(0, 0)]), self.tables, {})


class WithinOneAnotherTest(PlayerCase):
    def test_questions_by_chance(self):
        chance = random.Random(2)
        for _turn in range(500):
            tables = some_tables(chance, 6)
            most = chance.choice([6, 6, 6, 7, 9, 20, 1000])
            moments = {
                name: chance.randint(table.oldest(), table.now())
                for name, table in tables.items() if chance.random() < 0.5
            }
            question = some_question(chance, kinds_by_name(tables), chance.randint(2, 6), most)
            self.check(question, tables, moments, most, chance.choice([1, 2, 5, 10000]))

    def test_many_rows_in_rooms_of_six(self):
        chance = random.Random(3)
        table = Table(["number", "text", "number"], 16)
        for _put in range(4):
            table.put([(chance.randrange(60), chance.choice("abc"), k) for k in range(60)])
        table.take(("cell", 2, (">", 50)))
        windowed = ("windowed", ("joined", T, T, [(0, 0)]), [0], [(2, True)], [("rank",), ("sum", 5, None)])
        grouped = ("grouped", windowed, [0, 1], [("rows",), ("most", 7)])
        self.check(("ordered", grouped, [(3, True), (1, False)], 50), {"t": table}, {}, 6, 20)


class MomentsTest(PlayerCase):
    def test_each_moment(self):
        tables = some_tables(random.Random(4), 14)
        question = ("kept", T, U, [(0, 0)])
        for first in range(tables["t"].oldest(), tables["t"].now() + 1):
            self.check(question, tables, {"t": first}, 6, 5)
            self.check(question, tables, {"t": first, "u": tables["u"].oldest()}, 6, 5)
        self.check(question, tables, {"u": tables["u"].now(), "nobody": -5}, 6, 5)

    def test_names_that_are_not_asked_are_passed_over(self):
        tables = some_tables(random.Random(5), 4)
        expected = tables["t"].rows_at(tables["t"].now())
        for moments in ({"u": HUGE, "nobody": -1, "t": tables["t"].now()}, {"u": -1}, {"nobody": 10 ** 20}):
            self.assertEqual(Player(T, tables, moments, 6).next(500), expected)

    def test_of_the_tables_as_they_were_when_it_was_made(self):
        chance = random.Random(6)
        for question in (
            T, ("where", T, ("cell", 0, (">", 0))), ("told", T, [("cell", 1)]), ("ordered", T, RISING, None),
            ("joined", T, U, [(1, 1)]), ("grouped", U, [1], [("rows",)]), ("windowed", T, [], [], [("sum", 0, None)]),
        ):
            for told_ahead in (0, 1, 3):
                tables = some_tables(chance, 6)
                expected, twin = told_plainly(question, tables, {}), Player(question, tables, {}, 6)
                told_by_batches(twin, 4)
                player = Player(question, tables, {}, 6)
                rows = player.next(told_ahead) if told_ahead else []
                for table in tables.values():
                    table.put([(1, "a", 1)] * 7)
                    table.take(("cell", 1, ("=", "a")))
                    table.forget(table.now())
                    table.pour(0, len(table.heaps()) - 1)
                tables.clear()
                self.assertEqual(rows + told_by_batches(player, 4), expected)
                self.assertEqual((player.reads(), player.peak()), (twin.reads(), twin.peak()))


class RoomsTest(PlayerCase):
    def fed(self, teller, rows):
        for row in rows:
            teller.feed(row)
        return teller

    def check_step(self, question, teller, room, parts, rows):
        """A step over a table works as a teller of its own: peak and parts, row by row."""
        tables = {"t": table_of_numbers(rows)}
        player = Player(question, tables, {}, room.most())
        self.assertEqual(player.peak(), room.peak())
        self.fed(teller, tables["t"].rows_at(1))
        row = teller.next()
        while row is not None:
            self.assertEqual(player.next(1), [row])
            self.assertEqual((player.peak(), player.parts()), (room.peak(), parts.numbers()))
            row = teller.next()
        self.assertEqual((player.next(1), player.peak(), player.parts()), ([], room.peak(), []))

    def test_ordered_is_an_orderer_of_limit_most(self):
        for most in (6, 7, 10):
            for many in (0, 1, most, most + 1, 70):
                room, parts = Room(most), Parts()
                rows = [k * 7 % 71 for k in range(many)]
                self.check_step(("ordered", T, RISING, None), Orderer(RISING, most, room, parts), room, parts, rows)

    def test_grouped_is_a_grouper(self):
        for places in ([], [0], [1, 0]):
            for most in (6, 7, 10):
                room, parts = Room(most), Parts()
                grouper = Grouper(places, [("rows",)], room, parts)
                self.check_step(("grouped", T, places, [("rows",)]), grouper, room, parts, [k % 40 for k in range(60)])

    def test_peak_without_a_room_and_of_several(self):
        tables = {"t": table_of_numbers(range(20))}
        for question in (T, ("where", T, ALWAYS), ("told", ("where", ("where", T, ALWAYS), ALWAYS), [("cell", 0)])):
            player = Player(question, tables, {}, 6)
            self.assertEqual((len(player.next(50)), player.peak(), player.parts()), (20, 0, []))
        player = Player(("ordered", ("grouped", T, [], [("rows",)]), RISING, None), tables, {}, 20)
        self.assertEqual(player.peak(), 1)
        self.assertEqual((player.next(5), player.peak()), ([(20,)], 1))
        player = Player(("grouped", ("ordered", T, RISING, None), [], [("rows",)]), tables, {}, 12)
        self.assertEqual((player.next(5), player.peak()), ([(20,)], 12))

    def test_parts_rise_and_are_of_one_parts_for_all(self):
        tables = {"t": table_of_numbers([k * 7 % 50 for k in range(50)])}
        for question in (
            ("ordered", T, RISING, None), ("joined", T, T, [(0, 0)]), ("windowed", T, [], RISING, [("number",)]),
            ("grouped", T, [0], [("rows",)]),
        ):
            player = Player(question, tables, {}, 6)
            rows = player.next(1)
            first = player.parts()
            self.assertTrue(first)
            self.assertEqual(first, sorted(set(first)))
            first.clear()
            self.assertTrue(player.parts())
            self.assertEqual(len(rows + player.next(49)), 50)
            self.assertEqual((player.next(1), player.parts()), ([], []))
        two = ("joined", ("ordered", T, RISING, None), ("ordered", T, [(0, True)], None), [(0, 0)])
        player = Player(two, tables, {}, 6)
        player.next(1)
        self.assertEqual(len(set(player.parts())), len(player.parts()))
        self.assertEqual((len(player.next(50)), player.parts()), (49, []))

    def test_an_ordered_that_has_told_its_many_rows(self):
        tables = {"t": table_of_numbers([k * 7 % 50 for k in range(50)])}
        for many in (1, 3, 49, 50):
            player = Player(("ordered", T, RISING, many), tables, {}, 6)
            self.assertEqual([row[0] for row in player.next(many)], list(range(many)))
            self.assertTrue(player.parts())
            reads = player.reads()
            for _turn in range(2):
                self.assertEqual((player.next(1), player.parts(), player.reads()), ([], [], reads))
        player = Player(("ordered", T, RISING, 3), tables, {}, 6)
        self.assertEqual((len(player.next(4)), player.parts()), (3, []))

    def test_an_ordered_with_many_nought_takes_nothing(self):
        tables = {"t": table_of_numbers(range(50))}
        for inner in (T, ("ordered", T, RISING, None), ("joined", T, T, [(0, 0)])):
            player = Player(("ordered", inner, RISING, 0), tables, {}, 6)
            for _turn in range(2):
                self.assertEqual((player.next(5), player.reads(), player.parts(), player.peak()), ([], [], [], 0))
        player = Player(("grouped", ("ordered", T, [], 0), [], [("rows",)]), tables, {}, 6)
        self.assertEqual((player.next(5), player.reads()), ([(0,)], []))

    def test_rooms_somewhat_beyond_the_bounds(self):
        tables = some_tables(random.Random(7), 8)
        windowed = ("windowed", T, [1], RISING, [("rank",), ("sum", 0, None)])
        for question in (windowed, ("grouped", T, [0, 1], [("rows",)]), ("kept", T, U, [(0, 0)])):
            for most in (4, 5, 1001, 2000):
                self.check(("ordered", question, [(0, True)], None), tables, {}, most, 7)


class RefusedTest(unittest.TestCase):
    def setUp(self):
        self.tables = {"t": table_of_numbers(range(5)), "u": table_of_numbers(range(3))}
        self.tables["t"].take(("cell", 0, ("=", 2)))
        self.tables["t"].put([])
        self.tables["t"].forget(2)

    def refused(self, error, question, moments, most=6):
        before = {name: told_by(table) for name, table in self.tables.items()}, copy.deepcopy((question, moments))
        with self.assertRaises(error) as caught:
            Player(question, self.tables, moments, most)
        self.assertEqual(caught.exception.__class__, error)
        after = {name: told_by(table) for name, table in self.tables.items()}, (question, moments)
        self.assertEqual(after, before)

    def windowed(self, k, inner=T):
        return ("windowed", inner, [], [], [("ahead", 0, k)])

    def test_not_sound(self):
        for question in (
            ("table", "v"), ("tables", "t"), ("where", T, ("cell", 3, ("open",))), ("told", T, []),
            ("joined", T, U, [(0, 1)]), ("kept", T, ("table", "v"), [(0, 0)]), ("grouped", T, [], []),
            ("ordered", T, [(0, 1)], None), ("ordered", T, [], -1), self.windowed(-1), (), "t", None,
        ):
            self.refused(NotSound, question, {})

    def test_no_moment(self):
        for moment in (-1, 0, 1, 4, 10 ** 20, HUGE):
            for question in (T, ("joined", U, T, [(0, 0)]), ("kept", T, U, [(0, 0)]), ("ordered", T, [], 0)):
                self.refused(NoMoment, question, {"t": moment})
            Player(U, self.tables, {"t": moment}, 6)
        for moment in (2, 3):
            Player(T, self.tables, {"t": moment}, 6)
        self.refused(NoMoment, ("where", U, ALWAYS), {"u": 2, "t": 3})

    def test_no_room(self):
        for most in (6, 8, 9, 30):
            self.refused(NoRoom, self.windowed(most // 3), {}, most)
            self.refused(NoRoom, ("ordered", self.windowed(most // 3), [], 0), {}, most)
            self.refused(NoRoom, ("joined", U, self.windowed(HUGE), [(0, 0)]), {}, most)
            self.refused(NoRoom, self.windowed(most // 3, self.windowed(0)), {}, most)
            Player(self.windowed(most // 3 - 1), self.tables, {}, most)

    def test_together(self):
        far, nowhere = self.windowed(2), ("ordered", self.windowed(2), [(4, True)], None)
        self.refused(NotSound, nowhere, {"t": 0})
        self.refused(NotSound, nowhere, {})
        self.refused(NotSound, ("where", T, ("cell", 3, ("open",))), {"t": 0})
        self.refused(NoMoment, far, {"t": 0})
        self.refused(NoMoment, ("joined", far, U, [(0, 0)]), {"u": 2})
        self.refused(NoRoom, far, {"u": 2, "t": 2})


class ReadsTest(unittest.TestCase):
    def player(self, question, moments=()):
        return Player(question, self.tables, dict(moments), 6)

    def setUp(self):
        self.tables = {"t": table_of_numbers(range(5)), "u": table_of_numbers(range(3), 64)}
        self.tables["t"].put([(7, "y", 7)])

    def asked(self, name, test, places, many):
        """What an Asking of its own reads for so many rows, all of it where many is None."""
        asking = Asking(self.tables[name], self.tables[name].now(), test, places)
        while many != 0 and asking.next() is not None:
            many = None if many is None else many - 1
        return [(name, *read) for read in asking.reads()]

    def check_reads(self, question, name, test, places):
        """Read for one row after the other, as an Asking by this test at these places reads."""
        player = self.player(question)
        self.assertEqual(player.reads(), [])
        for many in range(1, 9):
            player.next(1)
            self.assertEqual(player.reads(), self.asked(name, test, places, many), (question, many))

    def test_by_hand(self):
        player = self.player(T)
        told = []
        for _turn in range(7):
            player.next(1)
            told.append(len(player.reads()))
        first = [("t", 0, 2, 0), ("t", 0, 3, 0), ("t", 0, 4, 0)]
        self.assertEqual(told, [3, 3, 6, 6, 9, 12, 12])
        self.assertEqual(player.reads()[:3], first)
        self.assertEqual(player.reads()[-1], ("t", 1, 4, 0))
        player = self.player(("told", ("where", T, ("cell", 0, (">", 2))), [("cell", 1), ("cell", 1)]))
        self.assertEqual(player.next(1), [("x3", "x3")])
        self.assertEqual(player.reads(), [("t", 0, 2, 1), ("t", 0, 3, 1)])
        self.assertEqual(player.next(5), [("x4", "x4"), ("y", "y")])
        self.assertEqual(player.reads(), [("t", 0, 2, 1), ("t", 0, 3, 1), ("t", 0, 3, 2), ("t", 1, 3, 0)])

    def test_tables_wheres_and_tolds(self):
        test, all_places = ("cell", 2, (">=", 3)), [0, 1, 2]
        forms = [("first", ("cell", 2), ("cell", 0)), ("value", 5)]
        self.check_reads(T, "t", ALWAYS, all_places)
        self.check_reads(("where", T, test), "t", test, all_places)
        self.check_reads(("told", T, forms), "t", ALWAYS, [0, 2])
        self.check_reads(("told", ("where", T, test), forms), "t", test, [0, 2])
        self.check_reads(("told", ("where", T, test), [("cell", 1)]), "t", test, [1])
        self.check_reads(("told", ("where", T, test), [("value", 1)]), "t", test, [])
        self.check_reads(("told", T, [("value", 1)]), "t", ALWAYS, [])

    def test_a_where_round_that_goes_over_rows(self):
        test, wide = ("cell", 0, ("<", 5)), ("where", ("where", T, ("cell", 0, ("<", 5))), ALWAYS)
        self.check_reads(wide, "t", test, [0, 1, 2])
        self.check_reads(("told", wide, [("cell", 1)]), "t", test, [0, 1, 2])
        self.check_reads(("told", ("told", T, [("cell", 1), ("cell", 0)]), [("cell", 0)]), "t", ALWAYS, [0, 1])
        # The where round goes on for its first row to the last stretch but one.
        player = self.player(("where", ("where", T, ALWAYS), ("cell", 0, ("=", 4))))
        self.assertEqual(len(player.next(1)), 1)
        self.assertEqual(player.reads(), self.asked("t", ALWAYS, [0, 1, 2], 5))

    def test_nothing_more_than_many_rows_want(self):
        for many, stretches in ((1, 1), (2, 1), (3, 2), (4, 2), (5, 3), (6, 4), (100, 4)):
            player = self.player(("told", T, [("cell", 0)]))
            player.next(many)
            self.assertEqual(len(player.reads()), stretches)

    def test_the_other_steps_take_all_with_the_first_row(self):
        whole = self.asked("t", ALWAYS, [0, 1, 2], None)
        for question in (
            ("grouped", T, [0], []), ("ordered", T, RISING, None), ("ordered", T, RISING, 1),
            ("windowed", T, [], [], [("number",)]), ("where", ("ordered", T, [], None), ALWAYS),
            ("told", ("ordered", T, [], None), [("cell", 1)]),
        ):
            player = self.player(question)
            self.assertEqual(player.reads(), [])
            player.next(1)
            self.assertEqual(player.reads(), whole, question)
            player.next(100)
            self.assertEqual(player.reads(), whole, question)

    def test_joined_and_kept_one_ahead_of_other(self):
        one, other = self.asked("u", ALWAYS, [0, 1, 2], None), self.asked("t", ("cell", 0, ("<", 3)), [1, 2], None)
        inner = ("told", ("where", T, ("cell", 0, ("<", 3))), [("cell", 2), ("cell", 1)])
        for word in ("joined", "kept"):
            player = self.player((word, U, inner, [(0, 0)]))
            self.assertEqual(player.reads(), [])
            player.next(1)
            self.assertEqual(player.reads(), one + other)
            player = self.player((word, inner, U, [(0, 0)]))
            player.next(1)
            self.assertEqual(player.reads(), other + one)

    def test_two_of_one_table_each_by_itself(self):
        player = self.player(("joined", ("told", T, [("cell", 0)]), T, [(0, 0)]))
        player.next(1)
        expected = self.asked("t", ALWAYS, [0], None) + self.asked("t", ALWAYS, [0, 1, 2], None)
        self.assertEqual(player.reads(), expected)

    def test_of_an_ordered_with_many_nought_nothing(self):
        player = self.player(("ordered", T, [], 0))
        self.assertEqual((player.next(9), player.reads()), ([], []))
        player = self.player(("joined", U, ("ordered", T, [], 0), [(0, 0)]))
        self.assertEqual((player.next(9), player.reads()), ([], self.asked("u", ALWAYS, [0, 1, 2], None)))

    def test_of_a_moment(self):
        player = self.player(T, [("t", 1)])
        self.assertEqual(len(player.next(9)), 5)
        self.assertEqual([read for read in player.reads() if read[1] == 1], [])


class OwnTest(unittest.TestCase):
    def test_what_is_handed_in_stays_and_is_not_kept(self):
        tables, moments = some_tables(random.Random(8), 8), {}
        question = ("ordered", ("windowed", ("grouped", ("told", ("where", ("where", (
            "kept", T, ("where", U, ("cell", 0, ("among", [1, 2, 4]))), [[1, 1]]
        ), ("cell", 0, ("among", [0, 1, 2, 3, 4]))), ALWAYS), [("cell", 0), ("cell", 1), ("cell", 3)]),
            [0, 1], [("rows",), ("sum", 2)]), [1], [[0, True]], [("number",)]), [[2, False]], None)
        before = copy.deepcopy((question, moments)), {name: told_by(table) for name, table in tables.items()}
        expected = told_plainly(question, tables, moments)
        self.assertGreater(len(expected), 3)
        player = Player(question, tables, moments, 6)
        rows = player.next(1)
        after = (question, moments), {name: told_by(table) for name, table in tables.items()}
        self.assertEqual(after, before)
        self.assertEqual(rows + player.next(500), expected)
        player = Player(question, tables, moments, 6)
        self.spoil(question)
        tables.clear()
        moments["t"] = 0
        self.assertEqual(player.next(500), expected)

    def spoil(self, thing):
        """Empties each list, at any depth."""
        for inner in thing:
            if isinstance(inner, (list, tuple)):
                self.spoil(inner)
        if isinstance(thing, list):
            thing.clear()

    def test_what_is_told_is_the_askers_own(self):
        tables = {"t": table_of_numbers(range(30))}
        players = [Player(("ordered", T, RISING, None), tables, {}, 6) for _turn in range(2)]
        for player in players:
            player.next(1)
        for spoilt in (players[0].next(2), players[0].reads(), players[0].parts()):
            spoilt.clear()
        players[1].next(2)
        self.assertIsNot(players[0].reads(), players[0].reads())
        self.assertIsNot(players[0].parts(), players[0].parts())
        self.assertEqual(players[0].reads(), players[1].reads())
        self.assertEqual(players[0].parts(), players[1].parts())
        self.assertEqual(players[0].next(50), players[1].next(50))


if __name__ == "__main__":
    unittest.main()
