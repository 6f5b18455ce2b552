"""[51]: rooms and parts."""

import unittest

from pillarstore.errors import NoPart, NoRoom
from pillarstore.rooms import Parts, Room
from tests.support import HUGE


def told_by(parts):
    """All that parts tell."""
    rows = {n: [parts.row(n, k) for k in range(parts.many(n) + 1)] for n in parts.numbers()}
    return parts.numbers(), parts.log(), rows


class RoomTest(unittest.TestCase):
    def check(self, room, most, held, peak):
        self.assertEqual((room.most(), room.held(), room.peak()), (most, held, peak))

    def refused(self, room, deed, many):
        before = room.most(), room.held(), room.peak()
        with self.assertRaises(NoRoom):
            deed(many)
        self.assertEqual((room.most(), room.held(), room.peak()), before)

    def test_to_the_edge_and_beyond_it(self):
        room = Room(6)
        self.check(room, 6, 0, 0)
        self.assertIsNone(room.hold(4))
        self.check(room, 6, 4, 4)
        self.refused(room, room.hold, 3)
        self.refused(room, room.hold, 1000)
        self.refused(room, room.hold, HUGE)
        self.refused(room, room.free, HUGE)
        room.hold(2)
        self.check(room, 6, 6, 6)
        self.refused(room, room.hold, 1)
        self.refused(room, room.free, 7)
        self.assertIsNone(room.free(6))
        self.check(room, 6, 0, 6)
        self.refused(room, room.free, 1)
        self.refused(room, room.hold, 7)

    def test_noughts(self):
        room = Room(6)
        room.hold(0)
        room.free(0)
        self.check(room, 6, 0, 0)
        room.hold(6)
        room.hold(0)
        room.free(0)
        self.check(room, 6, 6, 6)

    def test_the_peak_is_the_greatest_so_far(self):
        room = Room(1000)
        for hold, free, peak in ((5, 3, 5), (2, 4, 5), (5, 1, 5), (3, 0, 7), (1, 8, 8), (900, 900, 900)):
            room.hold(hold)
            room.free(free)
            self.assertEqual(room.peak(), peak)
        self.check(room, 1000, 0, 900)

    def test_rooms_are_apart(self):
        one, other = Room(6), Room(7)
        one.hold(6)
        other.hold(7)
        self.check(one, 6, 6, 6)
        self.check(other, 7, 7, 7)

    def test_somewhat_beyond_the_bounds_is_no_error(self):
        for most in (0, 1, 5, 1001, 5000):
            room = Room(most)
            room.hold(most)
            self.check(room, most, most, most)
            self.refused(room, room.hold, 1)


class PartsTest(unittest.TestCase):
    def test_no_parts(self):
        self.assertEqual(told_by(Parts()), ([], [], {}))

    def test_begin_add_and_row(self):
        parts = Parts()
        self.assertEqual(parts.begin(), 0)
        self.assertEqual((parts.many(0), parts.row(0, 0), parts.row(0, 5)), (0, None, None))
        self.assertIsNone(parts.add(0, (5, "a")))
        parts.add(0, [None, "b"])
        parts.add(0, ())
        self.assertEqual(parts.many(0), 3)
        self.assertEqual([parts.row(0, k) for k in range(5)], [(5, "a"), (None, "b"), (), None, None])
        self.assertEqual([parts.row(0, k) for k in (-1, -3, 1000)], [None] * 3)
        self.assertTrue(all(isinstance(parts.row(0, k), tuple) for k in range(3)))

    def test_parts_are_apart(self):
        parts = Parts()
        self.assertEqual([parts.begin() for _turn in range(3)], [0, 1, 2])
        parts.add(1, (5,))
        parts.add(2, (6,))
        parts.add(2, (7,))
        self.assertEqual([parts.many(n) for n in range(3)], [0, 1, 2])
        self.assertEqual([parts.row(n, 0) for n in range(3)], [None, (5,), (6,)])

    def test_numbers_never_come_again(self):
        parts = Parts()
        for number in range(4):
            self.assertEqual(parts.begin(), number)
            if number != 1:
                self.assertIsNone(parts.drop(number))
        self.assertEqual(parts.numbers(), [1])
        self.assertEqual((parts.begin(), parts.begin()), (4, 5))
        self.assertEqual(parts.numbers(), [1, 4, 5])

    def test_numbers_rise(self):
        parts = Parts()
        for _turn in range(12):
            parts.begin()
        parts.drop(3)
        parts.drop(0)
        self.assertEqual(parts.numbers(), [1, 2, 4, 5, 6, 7, 8, 9, 10, 11])

    def test_log(self):
        parts = Parts()
        parts.begin()
        parts.begin()
        parts.add(1, (5,))
        parts.add(1, (5,))
        parts.drop(1)
        parts.begin()
        parts.drop(0)
        self.assertEqual(parts.log(), [("begin", 0), ("begin", 1), ("drop", 1, 2), ("begin", 2), ("drop", 0, 0)])

    def test_no_part(self):
        parts = Parts()
        for number in range(3):
            parts.begin()
            parts.add(number, (number,))
        parts.drop(1)
        before = told_by(parts)
        for number in (1, 3, 4, -1, -3, 1000, HUGE):
            for deed, handed in (
                (parts.add, ((5,),)), (parts.row, (0,)), (parts.row, (7,)), (parts.many, ()), (parts.drop, ()),
            ):
                with self.assertRaises(NoPart):
                    deed(number, *handed)
                self.assertEqual(told_by(parts), before)


class OwnTest(unittest.TestCase):
    def test_rows_are_not_kept_as_handed_in(self):
        parts = Parts()
        parts.begin()
        row = [5, "a"]
        parts.add(0, row)
        row.append(6)
        self.assertEqual(parts.row(0, 0), (5, "a"))

    def test_what_is_told_is_the_askers_own(self):
        parts = Parts()
        parts.begin()
        numbers, log = parts.numbers(), parts.log()
        numbers.append(7)
        log.clear()
        self.assertEqual((parts.numbers(), parts.log()), ([0], [("begin", 0)]))
        numbers, log = parts.numbers(), parts.log()
        parts.begin()
        parts.drop(0)
        self.assertEqual((numbers, log), ([0], [("begin", 0)]))


if __name__ == "__main__":
    unittest.main()
