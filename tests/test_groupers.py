"""[53], [52] and [3]: which part cells go to, and Groupers."""

import itertools
import random
import unittest

from pillarstore.byterows import cell_bytes
from pillarstore.cells import SIGNS
from pillarstore.groupers import Grouper, part_of
from pillarstore.orderers import Orderer
from pillarstore.rooms import Parts, Room
from tests.gathering import BIG, GatheringCase, rows_left, some_rows, told_plainly

COUNTS = [("rows",), ("known", 0), ("sum", 2), ("least", 1), ("most", 0), ("known", 1), ("least", 2), ("most", 1)]
TABLE = ("table", "t")


def part_by_hand(cells, level):
    """part_of by one sum of powers, taken to the bound at the end alone."""
    row = [byte for cell in cells for byte in cell_bytes(cell)]
    total = level // 8 * 31 ** len(row)
    total += sum((byte + 1) * 31 ** (len(row) - 1 - at) for at, byte in enumerate(row))
    return total % 65521 // 4 ** (level % 8) % 4


def alike_by_part(many, levels):
    """Numbers that go to one and the same part at each of the first levels."""
    found, number = [], 0
    while len(found) < many:
        if all(part_of((number,), level) == 0 for level in range(levels)):
            found.append(number)
        number += 1
    return found


class PartOfTest(unittest.TestCase):
    def test_no_cells(self):
        told = [part_of([], level) for level in (0, 1, 7, 8, 9, 15, 16, 24, 32, 40, 41, 42)]
        self.assertEqual(told, [0, 0, 0, 1, 0, 0, 2, 3, 0, 1, 1, 0])

    def test_by_hand(self):
        # 5 is [1, 10]: 2, then 2 * 31 + 11 = 73; at the level 8 first 33, then 1034.
        self.assertEqual([part_of([5], level) for level in range(8)], [1, 2, 0, 1, 0, 0, 0, 0])
        self.assertEqual([part_of([5], level) for level in range(8, 15)], [2, 2, 0, 0, 0, 1, 0])
        # An "a" is [2, 2, 64]: 3, then 96, then 96 * 31 + 65 = 3041.
        self.assertEqual([part_of(["a"], level) for level in range(8)], [1, 0, 2, 3, 3, 2, 0, 0])
        self.assertEqual([part_of([None], level) for level in (0, 1, 8)], [1, 0, 0])
        self.assertEqual([part_of([None, None], level) for level in (0, 1, 2)], [0, 0, 2])

    def test_all_kinds_of_cells_and_levels(self):
        for cells in (
            [], [None], [0], [-1], [63], [64], [BIG], [-BIG], [10 ** 18 - 1], [""], ["~" * 20], ["a b"], [None, "a", 5],
            [5, "a", None], ["ab", "a"], ["a", "ba"], [1] * 24, ["~" * 20] * 8, [BIG ** 4, -BIG ** 4],
        ):
            for level in list(range(18)) + [23, 24, 100, 800, 8000]:
                expected = part_by_hand(cells, level)
                self.assertEqual(part_of(cells, level), expected, (cells, level))
                self.assertEqual(part_of(tuple(cells), level), expected, (cells, level))

    def test_the_bound(self):
        # At the level 8 * n without cells it is n at first.
        self.assertEqual([part_of([None], 8 * n) for n in (2113, 2114)], [65504 % 4, (65535 - 65521) % 4])

    def test_each_of_four_comes(self):
        for level in range(12):
            self.assertEqual({part_of([1000 * k], level) for k in range(2000)}, {0, 1, 2, 3}, level)

    def test_cells_stay(self):
        cells = [5, None, "a"]
        part_of(cells, 3)
        self.assertEqual(cells, [5, None, "a"])


class Model:
    """What a Grouper has to do, level within level, as [53] says it; the counts are told plainly."""

    def __init__(self, places, counts, most):
        self.places, self.counts, self.half = places, counts, most // 2
        self.room, self.parts = Room(most), Parts()
        self.parts.begin()
        self.groups, self.four = self.level_begun()
        if not places:
            self.room.hold(1)
            self.groups[()] = []
        self.orderer = Orderer([(k, False) for k in range(len(places))], self.half, self.room, self.parts)

    def level_begun(self):
        return {}, {}

    def feed(self, row, groups, four, level):
        cells = tuple(row[place] for place in self.places)
        if cells in groups:
            groups[cells].append(row)
        elif len(groups) < self.half:
            self.room.hold(1)
            groups[cells] = [row]
        else:
            way = part_by_hand(cells, level)
            if way not in four:
                four[way] = self.parts.begin()
            self.parts.add(four[way], row)

    def end_level(self, groups, four, level):
        for cells, rows in groups.items():
            self.room.free(1)
            self.orderer.feed(told_plainly(("grouped", TABLE, self.places, self.counts), t=rows)[0])
        for way in range(4):
            if way in four:
                inner_groups, inner_four = self.level_begun()
                for k in range(self.parts.many(four[way])):
                    self.feed(self.parts.row(four[way], k), inner_groups, inner_four, level + 1)
                self.parts.drop(four[way])
                self.end_level(inner_groups, inner_four, level + 1)

    def state(self):
        return self.room.held(), self.room.peak(), self.parts.log()


class GrouperCase(GatheringCase):
    def check(self, rows, places, counts, most):
        """Feeds rows and tells groups, and asks all along what is held, begun and dropped."""
        grouper, model = Grouper(places, counts, *self.begun(most)), Model(places, counts, most)
        self.check_state(model)
        for row in rows:
            self.assertIsNone(grouper.feed(row))
            model.feed(row, model.groups, model.four, 0)
            self.assertLessEqual(self.room.held(), most // 2)
            self.check_state(model)
        model.end_level(model.groups, model.four, 0)
        for expected in told_plainly(("grouped", TABLE, places, counts), t=rows):
            self.assertEqual(grouper.next(), expected)
            self.assertEqual(model.orderer.next(), expected)
            self.check_state(model)
        self.assertIsNone(model.orderer.next())
        self.check_end(grouper)
        self.check_state(model)
        return model

    def check_state(self, model):
        self.assertEqual((self.room.held(), self.room.peak(), self.parts.log()), model.state())


class RowsTest(GrouperCase):
    def test_no_rows(self):
        self.check([], [0], COUNTS, 6)
        self.check([], [0, 1], [], 6)
        self.check([], [], COUNTS, 6)

    def test_one_row(self):
        for places in ([], [0], [1], [0, 1, 2]):
            self.check([(5, None, 7)], places, COUNTS, 6)

    def test_few_groups_and_many_rows(self):
        chance = random.Random(1)
        rows = [(chance.choice([1, 2, None]), "a", k) for k in range(200)]
        model = self.check(rows, [0], COUNTS, 6)
        self.assertEqual((model.parts.log(), model.room.peak()), ([("begin", 0)], 3))

    def test_counts_of_groups_about_the_room(self):
        for most in (6, 7, 8, 12):
            for groups in range(1, 2 * most + 3):
                self.check([(k * 7 % groups, "a", k) for k in range(3 * groups)], [0], COUNTS, most)

    def test_many_unlike_groups(self):
        for most in (6, 7, 20):
            self.check([(k * 37 % 400, None, k) for k in range(400)], [0], [("sum", 2)], most)

    def test_places(self):
        chance = random.Random(2)
        rows = some_rows(chance, 150)
        for places in ([], [0], [1], [2], [0, 1], [2, 1], [1, 1], [0, 0, 2], [2, 1, 0]):
            for most in (6, 9, 100):
                self.check(rows, places, COUNTS, most)
                self.check(rows, tuple(places), tuple(COUNTS), most)

    def test_each_count_alone(self):
        chance = random.Random(3)
        rows = some_rows(chance, 60)
        for count in COUNTS:
            self.check(rows, [1], [count], 6)
            self.check(rows, [], [count], 6)

    def test_places_without_counts(self):
        self.check(some_rows(random.Random(4), 80), [0, 1], [], 6)

    def test_rooms_somewhat_beyond_the_bounds(self):
        for most in (4, 5, 1001, 3000):
            self.check([(k * 7 % 50, None, k) for k in range(120)], [0], COUNTS, most)
        room, parts = Room(3), Parts()
        grouper = Grouper([0], [("rows",)], room, parts)
        for number in (3, 1, 2, 5, 4, 1):
            grouper.feed((number,))
        self.assertEqual(rows_left(grouper), [(1, 2), (2, 1), (3, 1), (4, 1), (5, 1)])
        self.assertEqual((room.held(), parts.numbers()), (0, []))


class LevelsTest(GrouperCase):
    def test_parts_within_parts(self):
        # 64 unlike groups and 3 held at a level: some go three levels deep.
        model = self.check([(k, None, k) for k in range(64)], [0], [("rows",)], 6)
        self.assertGreater(len(model.parts.log()), 40)

    def test_one_part_at_several_levels(self):
        for levels in (2, 4, 6):
            numbers = alike_by_part(20, levels)
            self.check([(number, None, 1) for number in numbers], [0], COUNTS, 6)

    def test_one_part_at_all_levels(self):
        # Two signs, the first one less and the second 31 greater, come to the same: so these are never parted.
        pairs = [SIGNS[40 - k] + SIGNS[31 * k] for k in range(4)]
        texts = ["".join(some) for some in itertools.product(pairs, repeat=4)]
        self.assertEqual(len({tuple(part_of([text], level) for level in range(100)) for text in texts}), 1)
        for many, most in ((16, 6), (64, 6), (64, 7), (256, 6), (256, 50)):
            model = self.check([(1, text, 2) for text in texts[:many] * 2], [1], COUNTS, most)
            begun = len([event for event in model.parts.log() if event[0] == "begin"])
            self.assertGreaterEqual(begun, many // (most // 2))


class ByHandTest(unittest.TestCase):
    def test_held_groups_alone(self):
        room, parts = Room(6), Parts()
        grouper = Grouper([1], [("rows",), ("sum", 0)], room, parts)
        held = []
        for row in ((5, "b"), (None, "a"), (7, "b"), (2, None)):
            grouper.feed(row)
            held.append(room.held())
        self.assertEqual(held, [1, 2, 2, 3])
        told = [(grouper.next(), room.held()) for _turn in range(5)]
        self.assertEqual(told, [((None, 1, 2), 2), (("a", 1, None), 1), (("b", 2, 12), 0), (None, 0), (None, 0)])
        self.assertEqual((parts.log(), room.peak()), ([], 3))

    def test_rows_go_to_parts(self):
        # Of 0 to 7 the parts at the level 0 are those of the bytes [1, 0] to [1, 14]: 63 + 2 * k, so 3 or 1.
        self.assertEqual([part_of([k], 0) for k in range(8)], [3, 1, 3, 1, 3, 1, 3, 1])
        self.assertEqual([part_of([k], 1) for k in (3, 4, 5, 6, 7)], [1, 1, 2, 2, 3])
        room, parts = Room(6), Parts()
        grouper = Grouper([0], [("rows",)], room, parts)
        for number in (0, 1, 2, 4, 3, 4, 1, 6):
            grouper.feed((number,))
        self.assertEqual((room.held(), room.peak(), parts.log()), (3, 3, [("begin", 0), ("begin", 1)]))
        in_parts = [[parts.row(number, k) for k in range(parts.many(number))] for number in (0, 1)]
        self.assertEqual(in_parts, [[(4,), (4,), (6,)], [(3,)]])
        self.assertEqual(grouper.next(), (0, 1))
        # The part 1 of the way 1 goes ahead of the part 0 of the way 3; the Orderer's parts are 2 and 3.
        log = [("begin", 0), ("begin", 1), ("drop", 1, 1), ("begin", 2), ("drop", 0, 3), ("begin", 3)]
        self.assertEqual(parts.log(), log)
        self.assertEqual(rows_left(grouper), [(1, 2), (2, 1), (3, 1), (4, 2), (6, 1)])
        self.assertEqual(parts.numbers(), [])

    def test_without_places_the_group_is_held_from_the_making_on(self):
        room, parts = Room(6), Parts()
        grouper = Grouper([], [("rows",), ("most", 0)], room, parts)
        self.assertEqual((room.held(), room.peak()), (1, 1))
        self.assertEqual([(grouper.next(), room.held()) for _turn in range(3)], [((0, None), 0), (None, 0), (None, 0)])

    def test_rows_as_lists(self):
        grouper = Grouper([0], [("rows",)], Room(6), Parts())
        for number in (4, 3, 2, 1, 1):
            grouper.feed([number, "a"])
        told = rows_left(grouper)
        self.assertEqual(told, [(1, 2), (2, 1), (3, 1), (4, 1)])
        self.assertTrue(all(isinstance(row, tuple) for row in told))

    def test_two_over_one_parts(self):
        parts = Parts()
        rooms = [Room(6), Room(8)]
        one = Grouper([0], [("sum", 1)], rooms[0], parts)
        other = Grouper([1], [("sum", 0)], rooms[1], parts)
        for k in range(40):
            one.feed((k % 20, k % 15))
            other.feed((k % 20, k % 15))
        told = [[], []]
        for _turn in range(25):
            for rows, grouper in zip(told, (one, other)):
                rows.append(grouper.next())
        rows = [(k % 20, None, k % 15) for k in range(40)]
        self.assertEqual([row for row in told[0] if row], told_plainly(("grouped", TABLE, [0], [("sum", 2)]), t=rows))
        self.assertEqual([row for row in told[1] if row], told_plainly(("grouped", TABLE, [2], [("sum", 0)]), t=rows))
        self.assertEqual([room.held() for room in rooms] + parts.numbers(), [0, 0])


class OwnTest(unittest.TestCase):
    def test_what_is_handed_in_stays_and_is_not_kept(self):
        places, counts, row = [0], [("rows",)], [1, 5]
        grouper = Grouper(places, counts, Room(6), Parts())
        grouper.feed(row)
        self.assertEqual((places, counts, row), ([0], [("rows",)], [1, 5]))
        places.append(1)
        counts.append(("sum", 1))
        row[0] = 2
        for number in (4, 3, 9, 9, 1):
            kept = [number, 5]
            grouper.feed(kept)
            kept[0] = 8
        self.assertEqual(rows_left(grouper), [(1, 2), (3, 1), (4, 1), (9, 2)])


if __name__ == "__main__":
    unittest.main()
