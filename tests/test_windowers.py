"""[55], [52] and [3]: Windowers."""

import random
import unittest

from pillarstore.errors import NoRoom
from pillarstore.rooms import Parts, Room
from pillarstore.windowers import Windower
from tests.gathering import BIG, GatheringCase, rows_left, some_rows, told_plainly
from tests.support import HUGE

TABLE = ("table", "t")
ALL_PLACES = ([], [0], [1], [2, 1], [1, 1], [0, 1, 2])
ALL_ITEMS = ([], [(0, False)], [(0, True)], [(1, True), (2, False)], [(2, False), (2, True)], [(1, False), (0, True)])


def windows_of(most):
    """Each window, with the least and the greatest k that a room of so many lets, and between these."""
    far = most // 3 - 1
    return [
        ("number",), ("rank",), ("ahead", 1, 0), ("ahead", 0, 1), ("ahead", 2, far), ("ahead", 1, far), ("sum", 0, 0),
        ("sum", 2, 1), ("sum", 0, far), ("sum", 2, None),
    ]


class WindowerCase(GatheringCase):
    def check(self, rows, places, items, windows, most):
        """Feeds rows, asks all along what is held and in parts, and tells all."""
        windower = Windower(places, items, windows, *self.begun(most))
        self.assertEqual((self.room.peak(), self.parts.numbers()), (0, [0]))
        for at, row in enumerate(rows):
            self.assertIsNone(windower.feed(row))
            self.assertLessEqual(self.room.held(), most)
            self.assertGreaterEqual(self.room.held() + len(self.own_rows()), at + 1)
        self.check_told(windower, told_plainly(("windowed", TABLE, places, items, windows), t=rows))


class RowsTest(WindowerCase):
    def test_no_rows(self):
        for most in (6, 7, 30):
            self.check([], [0], [(1, False)], windows_of(most), most)
            self.check([], [], [], windows_of(most), most)

    def test_one_row(self):
        for row in ((5, "a", 7), (None, None, None), (BIG, "", -BIG)):
            for places in ALL_PLACES:
                self.check([row], places, [(0, True)], windows_of(6), 6)

    def test_places_and_items(self):
        chance = random.Random(1)
        for places in ALL_PLACES:
            for items in ALL_ITEMS:
                for most in (6, 7, 9, 31):
                    self.check(some_rows(chance, 30), places, items, windows_of(most), most)

    def test_counts_of_rows_about_the_room(self):
        for most in (6, 7, 8):
            for many in range(2 * most + 3):
                rows = [(k * 5 % 3, "a", k) for k in range(many)]
                self.check(rows, [0], [(2, True)], windows_of(most), most)

    def test_each_window_alone(self):
        chance = random.Random(2)
        rows = some_rows(chance, 40)
        for window in windows_of(6):
            for places in ([], [1]):
                self.check(rows, places, [(0, False)], [window], 6)

    def test_each_k_that_the_room_lets(self):
        rows = some_rows(random.Random(3), 50)
        for most in (6, 9, 20):
            for k in range(most // 3):
                self.check(rows, [1], [(0, True)], [("ahead", 2, k), ("sum", 0, k)], most)

    def test_rows_in_the_order_they_were_fed(self):
        rows = [(k * 37 % 101, "ba"[k % 2], k * 17 % 103) for k in range(100)]
        for items in ([(0, False)], [(0, True)], [(2, False)], [(1, True)]):
            self.check(rows, [1], items, [("number",), ("rank",)], 6)

    def test_all_alike(self):
        rows = [(5, "a", 1)] * 40
        self.check(rows, [0, 1, 2], [(2, True)], windows_of(6), 6)
        self.check(rows, [], [], windows_of(6), 6)

    def test_all_parts_of_one_row(self):
        self.check([(k * 7 % 60, "a", k) for k in range(60)], [0], [], windows_of(6), 6)

    def test_sums_of_numbers_of_any_size(self):
        rows = [((-1) ** k * BIG ** (k % 4), None, None if k % 3 == 0 else BIG) for k in range(40)]
        self.check(rows, [], [], windows_of(9), 9)

    def test_many_rows_in_rooms_of_six(self):
        chance = random.Random(4)
        rows = [(chance.randrange(12), "a", chance.randrange(300)) for _row in range(400)]
        self.check(rows, [0], [(2, False)], windows_of(6), 6)
        self.check(rows, [], [(2, True)], [("rank",), ("sum", 0, None)], 6)

    def test_rows_and_all_as_lists_and_tuples(self):
        rows = some_rows(random.Random(5), 20)
        self.check([list(row) for row in rows], (1,), ([0, True], [2, False]), tuple(windows_of(6)), 6)
        windower = Windower([], [[0, False]], [("number",)], Room(6), Parts())
        for row in rows:
            windower.feed(list(row))
        self.assertTrue(all(isinstance(row, tuple) for row in rows_left(windower)))

    def test_rooms_somewhat_beyond_the_bounds(self):
        rows = some_rows(random.Random(6), 30)
        for most in (3, 4, 5, 1001, 3000):
            self.check(rows, [1], [(0, True)], windows_of(most)[:3] + [("sum", 0, None)], most)


class ByHandTest(unittest.TestCase):
    def test_each_window(self):
        windows = [("number",), ("rank",), ("ahead", 2, 1), ("sum", 2, 1), ("sum", 2, None), ("ahead", 2, 0)]
        windower = Windower([0], [(1, False)], windows, Room(6), Parts())
        rows = [("a", 3, 10), ("b", 1, None), ("a", 1, 20), ("a", 3, None), ("b", 1, 5), ("a", 7, 1), ("a", None, 2)]
        for row in rows:
            windower.feed(row)
        # The part "a" in order: None, 1, 3, 3, 7; the part "b": 1, 1.
        expected = [
            (3, 3, 20, 30, 32, 10), (1, 1, None, None, None, None), (2, 2, 2, 22, 22, 20), (4, 3, 10, 10, 32, None),
            (2, 1, None, 5, 5, 5), (5, 5, None, 1, 33, 1), (1, 1, None, 2, 2, 2),
        ]
        self.assertEqual(rows_left(windower), [row + cells for row, cells in zip(rows, expected)])

    def test_alike_rows_stay_in_order_and_falling_too(self):
        windower = Windower([], [(0, True)], [("number",), ("rank",)], Room(6), Parts())
        for number in (1, 2, 1, 2, 1):
            windower.feed((number,))
        self.assertEqual(rows_left(windower), [(1, 3, 3), (2, 1, 1), (1, 4, 3), (2, 2, 1), (1, 5, 3)])

    def test_two_over_one_parts(self):
        parts, rooms = Parts(), [Room(6), Room(9)]
        windowers = [Windower([0], [(2, True)], windows_of(6), room, parts) for room in rooms]
        rows = some_rows(random.Random(7), 40)
        for row in rows:
            for windower in windowers:
                windower.feed(row)
        told = [[], []]
        for _turn in range(45):
            for some, windower in zip(told, windowers):
                some.append(windower.next())
        expected = told_plainly(("windowed", TABLE, [0], [(2, True)], windows_of(6)), t=rows)
        self.assertEqual(told, [expected + [None] * 5] * 2)
        self.assertEqual([room.held() for room in rooms] + parts.numbers(), [0, 0])


class NoRoomTest(unittest.TestCase):
    def refused(self, windows, most):
        room, parts = Room(most), Parts()
        with self.assertRaises(NoRoom):
            Windower([0], [(1, False)], windows, room, parts)
        self.assertEqual((room.held(), room.peak(), parts.log()), (0, 0, []))

    def test_a_k_that_is_not_below_a_third(self):
        for most in (6, 7, 8, 9, 10, 11, 12, 100, 1000):
            third = most // 3
            for far in (third, third + 1, most, 10 ** 20, HUGE):
                self.refused([("ahead", 0, far)], most)
                self.refused([("sum", 0, far)], most)
                self.refused([("number",), ("sum", 0, None), ("ahead", 0, 0), ("sum", 0, far), ("rank",)], most)
            Windower([], [], [("ahead", 0, third - 1), ("sum", 0, third - 1)], Room(most), Parts())

    def test_none_and_windows_without_a_k_are_not_refused(self):
        Windower([], [], [("sum", 0, None), ("number",), ("rank",)], Room(6), Parts())


class OwnTest(unittest.TestCase):
    def test_what_is_handed_in_stays_and_is_not_kept(self):
        places, items, windows, row = [0], [[1, True]], [("number",)], [1, 5]
        windower = Windower(places, items, windows, Room(6), Parts())
        windower.feed(row)
        self.assertEqual((places, items, windows, row), ([0], [[1, True]], [("number",)], [1, 5]))
        places.append(1)
        items[0][1] = False
        items.append((0, False))
        windows.append(("rank",))
        row[1] = 9
        for number in (7, 3, 2, 8, 1, 0):
            windower.feed([1, number])
        told = [(1, 5, 3), (1, 7, 2), (1, 3, 4), (1, 2, 5), (1, 8, 1), (1, 1, 6), (1, 0, 7)]
        self.assertEqual(rows_left(windower), told)


if __name__ == "__main__":
    unittest.main()
