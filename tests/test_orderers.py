"""[52]: orderers."""

import random
import unittest

from pillarstore.errors import NoRoom
from pillarstore.orderers import Orderer
from pillarstore.rooms import Parts, Room

RISING = [(0, False)]


def rows_left(orderer):
    """All rows that are still to come."""
    rows = []
    while (row := orderer.next()) is not None:
        rows.append(row)
    return rows


def in_order(rows, items):
    """The rows in order, by a key of our own."""
    for place, down in reversed(list(items)):
        rows = sorted(rows, key=lambda row: (row[place] is not None, row[place]), reverse=down)
    return list(rows)


class Expected:
    """What an Orderer of rows, each with its place as the last cell, has to do, worked out from all of them."""

    def __init__(self, rows, items, limit):
        self.items, self.limit = items, limit
        self.log, self.contents, self.own = [], {}, []
        self.rows = in_order(rows, items)
        pieces = [rows[at:at + limit] for at in range(0, len(rows), limit)]
        self.waiting = pieces[-1] if pieces else []
        for piece in pieces[:-1]:
            self.own.append(self.begun(piece))
        self.log_fed = list(self.log)

    def begun(self, rows):
        number = len(self.contents)
        self.log.append(("begin", number))
        self.contents[number] = in_order(rows, self.items)
        return number

    def dropped(self, numbers):
        self.log += [("drop", number, len(self.contents[number])) for number in numbers]

    def end_feeding(self):
        if self.own:
            self.own.append(self.begun(self.waiting))
        while len(self.own) > self.limit:
            groups = [self.own[at:at + self.limit] for at in range(0, len(self.own), self.limit)]
            self.own = []
            for group in groups:
                if len(group) == 1:
                    self.own += group
                else:
                    self.own.append(self.begun([row for number in group for row in self.contents[number]]))
                    self.dropped(group)

    def held_behind(self, told):
        """How many rows are held behind so many that are told."""
        if not self.own:
            return len(self.rows) - told
        places = {row[-1] for row in self.rows[told:]}
        return sum(any(row[-1] in places for row in self.contents[number]) for number in self.own)


class OrdererCase(unittest.TestCase):
    def check(self, rows, items, limit, most=None):
        """Feeds rows, each with its place behind it, and asks all along what is held and begun."""
        rows = [tuple(row) + (at,) for at, row in enumerate(rows)]
        room, parts = Room(limit if most is None else most), Parts()
        orderer, expected = Orderer(items, limit, room, parts), Expected(rows, items, limit)
        for at, row in enumerate(rows):
            self.assertIsNone(orderer.feed(row))
            self.assertEqual(room.held(), at % limit + 1)
        self.assertEqual((parts.log(), room.peak()), (expected.log_fed, min(limit, len(rows))))
        expected.end_feeding()
        for told, row in enumerate(expected.rows):
            self.assertEqual(orderer.next(), row)
            self.assertEqual(room.held(), expected.held_behind(told + 1))
            self.assertEqual(parts.log(), expected.log)
            self.assertEqual(parts.numbers(), sorted(expected.own))
        self.assertIsNone(orderer.next())
        expected.dropped(expected.own)
        for _turn in range(3):
            self.assertEqual((parts.log(), parts.numbers()), (expected.log, []))
            self.assertEqual((room.held(), room.peak()), (0, min(limit, len(rows))))
            self.assertIsNone(orderer.next())


class RowsTest(OrdererCase):
    def test_counts_of_rows(self):
        chance = random.Random(1)
        for limit in (2, 3, 4, 7):
            for many in (0, 1, limit - 1, limit, limit + 1, 2 * limit, 2 * limit + 1, limit ** 2, limit ** 2 + 1, 60):
                rows = [(chance.randrange(8),) for _row in range(many)]
                self.check(rows, RISING, limit)
                self.check(rows, RISING, limit, limit + 3)

    def test_rising_and_falling_rows(self):
        for many in (9, 10, 33):
            self.check([(k,) for k in range(many)], RISING, 3)
            self.check([(-k,) for k in range(many)], RISING, 3)

    def test_items(self):
        chance = random.Random(2)
        numbers, texts = [None, 0, 1, 2, 10 ** 20], [None, "", "a", "b", "10"]
        rows = [(chance.choice(numbers), chance.choice(texts)) for _row in range(50)]
        for items in (
            [], [(0, False)], [(0, True)], [(1, False)], [(1, True)], [(0, True), (1, False)], [(1, True), (0, True)],
            [(0, False), (0, True)], ([1, False], [0, True]),
        ):
            for limit in (2, 3, 5, 50, 60):
                self.check(rows, items, limit)

    def test_alike_rows_as_they_were_fed(self):
        for limit in (2, 3, 4):
            self.check([(5,)] * 40, RISING, limit)
            self.check([(5,)] * 40, [(0, True)], limit)
            self.check([()] * 20, [], limit)

    def test_many_rows(self):
        chance = random.Random(3)
        self.check([(chance.randrange(50),) for _row in range(400)], RISING, 6)
        self.check([(chance.randrange(50),) for _row in range(300)], [(0, True)], 100)

    def test_rows_as_lists(self):
        orderer = Orderer(RISING, 2, Room(6), Parts())
        for number in (3, 1, 2):
            orderer.feed([number])
        told = rows_left(orderer)
        self.assertEqual(told, [(1,), (2,), (3,)])
        self.assertTrue(all(isinstance(row, tuple) for row in told))


class ByHandTest(unittest.TestCase):
    def fed(self, numbers, limit, most=6):
        room, parts = Room(most), Parts()
        orderer = Orderer(RISING, limit, room, parts)
        for number in numbers:
            orderer.feed((number,))
        return orderer, room, parts

    def test_without_a_part(self):
        orderer, room, parts = self.fed([3, 1, 2], 3)
        held = [room.held()]
        for number in (1, 2, 3, None, None):
            self.assertEqual(orderer.next(), None if number is None else (number,))
            held.append(room.held())
        self.assertEqual((held, room.peak(), parts.log()), ([3, 2, 1, 0, 0, 0], 3, []))

    def test_two_parts(self):
        orderer, room, parts = self.fed([3, 1, 2], 2)
        self.assertEqual((room.held(), room.peak(), parts.log()), (1, 2, [("begin", 0)]))
        self.assertEqual([parts.row(0, k) for k in range(3)], [(1,), (3,), None])
        told = []
        for _turn in range(4):
            told.append((orderer.next(), room.held(), parts.numbers()))
        self.assertEqual(told, [((1,), 2, [0, 1]), ((2,), 1, [0, 1]), ((3,), 0, [0, 1]), (None, 0, [])])
        self.assertEqual(parts.log(), [("begin", 0), ("begin", 1), ("drop", 0, 2), ("drop", 1, 1)])

    def test_rounds(self):
        orderer, room, parts = self.fed([9, 8, 7, 6, 5, 4, 3, 2, 1], 2)
        begun = [("begin", number) for number in range(4)]
        self.assertEqual((parts.log(), room.held()), (begun, 1))
        self.assertEqual(orderer.next(), (1,))
        first_round = [("begin", 5), ("drop", 0, 2), ("drop", 1, 2), ("begin", 6), ("drop", 2, 2), ("drop", 3, 2)]
        second_round = [("begin", 7), ("drop", 5, 4), ("drop", 6, 4)]
        log = begun + [("begin", 4)] + first_round + second_round
        self.assertEqual((parts.log(), parts.numbers()), (log, [4, 7]))
        self.assertEqual([parts.row(7, k) for k in range(9)], [(k,) for k in range(2, 10)] + [None])
        self.assertEqual((room.held(), room.peak()), (1, 2))
        self.assertEqual(rows_left(orderer), [(k,) for k in range(2, 10)])
        self.assertEqual(parts.log(), log + [("drop", 7, 8), ("drop", 4, 1)])

    def test_just_as_many_parts_as_limit_go_no_round(self):
        orderer, room, parts = self.fed(range(9), 3)
        self.assertEqual(orderer.next(), (0,))
        self.assertEqual(parts.log(), [("begin", 0), ("begin", 1), ("begin", 2)])
        self.assertEqual(room.held(), 3)

    def test_no_room_ahead_of_limit_rows(self):
        for most in (6, 7):
            orderer, room, parts = self.fed(range(most, 0, -1), most + 1, most)
            for _turn in range(2):
                with self.assertRaises(NoRoom):
                    orderer.feed((0,))
                self.assertEqual((room.held(), room.peak(), parts.log()), (most, most, []))
            self.assertEqual(rows_left(orderer), [(k,) for k in range(1, most + 1)])

    def test_no_room_behind_a_part(self):
        orderer, room, parts = self.fed(range(5), 4)
        room.hold(5)
        with self.assertRaises(NoRoom):
            orderer.feed((7,))
        self.assertEqual((room.held(), parts.log()), (6, [("begin", 0)]))
        room.free(5)
        orderer.feed((-1,))
        self.assertEqual(rows_left(orderer), [(k,) for k in range(-1, 5)])

    def test_other_parts_and_rows_of_the_room_stay(self):
        room, parts = Room(10), Parts()
        parts.begin()
        parts.add(0, (5,))
        room.hold(4)
        orderer = Orderer(RISING, 2, room, parts)
        for number in (4, 3, 2, 1, 0):
            orderer.feed((number,))
        self.assertEqual(rows_left(orderer), [(k,) for k in range(5)])
        self.assertEqual((room.held(), parts.numbers(), parts.row(0, 0)), (4, [0], (5,)))

    def test_two_orderers_of_one_room(self):
        room, parts = Room(8), Parts()
        one, other = Orderer(RISING, 2, room, parts), Orderer([(0, True)], 3, room, parts)
        for number in (4, 1, 5, 3, 2):
            one.feed((number,))
            other.feed((number,))
        self.assertEqual([one.next(), other.next(), one.next(), other.next()], [(1,), (5,), (2,), (4,)])
        self.assertEqual((rows_left(one), rows_left(other)), ([(3,), (4,), (5,)], [(3,), (2,), (1,)]))
        self.assertEqual((room.held(), parts.numbers()), (0, []))

    def test_a_limit_somewhat_below_is_no_error(self):
        for limit in (1, 0, -1):
            orderer, room, parts = self.fed([5, 4, 3, 2, 1], limit)
            self.assertEqual(rows_left(orderer), [(k,) for k in range(1, 6)])
            self.assertEqual((room.held(), parts.numbers()), (0, []))


class OwnTest(unittest.TestCase):
    def test_what_is_handed_in_stays_and_is_not_kept(self):
        items, row = [[0, True]], [1, 5]
        orderer = Orderer(items, 2, Room(6), Parts())
        orderer.feed(row)
        row[0] = 9
        items[0][1] = False
        items.append((1, False))
        for other in ([3, 5], [2, 5]):
            orderer.feed(other)
            self.assertEqual(len(other), 2)
        self.assertEqual(rows_left(orderer), [(3, 5), (2, 5), (1, 5)])


if __name__ == "__main__":
    unittest.main()
