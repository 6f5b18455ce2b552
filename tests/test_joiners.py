"""[54], [52] and [3]: Joiners."""

import random
import unittest

from pillarstore.joiners import Joiner
from pillarstore.rooms import Parts, Room
from tests.gathering import BIG, GatheringCase, rows_left, some_rows, told_plainly

ONE, OTHER = ("table", "one"), ("table", "other")
ALL_PAIRS = (
    [(0, 0)], [(1, 1)], [(0, 2)], [(2, 0)], [(0, 0), (1, 1)], [(0, 2), (2, 0)], [(0, 0), (0, 2)], [(2, 2), (2, 2)],
    [(0, 0), (1, 1), (2, 2)],
)


def mates_alone(rows, pairs):
    """The rows of other that may be a row's mate."""
    return [tuple(row) for row in rows if all(row[place] is not None for _one, place in pairs)]


class JoinerCase(GatheringCase):
    def check(self, one, other, pairs, most):
        """Joined and kept: feeds rows, asks all along what is held and in parts, and tells all."""
        for word in ("joined", "kept"):
            self.check_word(word, one, other, pairs, most)

    def check_word(self, word, one, other, pairs, most):
        joiner = Joiner(pairs, word == "kept", 3, *self.begun(most))
        self.assertEqual((self.room.peak(), self.parts.numbers()), (0, [0]))
        for at, row in enumerate(other):
            self.assertIsNone(joiner.feed_other(row))
            self.check_kept(mates_alone(other[:at + 1], pairs))
        for row in one:
            self.assertIsNone(joiner.feed_one(row))
            self.assertLessEqual(self.room.held(), most)
        self.check_stand(mates_alone(other, pairs), self.room.held())
        self.check_told(joiner, told_plainly((word, ONE, OTHER, pairs), one=one, other=other))

    def check_kept(self, mates):
        """All of other's rows that may be mates are held, half of most at most, or stand in parts."""
        self.assertLessEqual(self.room.held(), self.room.most() // 2)
        self.assertEqual(self.room.held() + len(self.own_rows()), len(mates))
        self.check_stand(mates, self.room.held())

    def check_stand(self, mates, held):
        """All but so many of the mates stand in parts."""
        missing = list(mates)
        for row in self.own_rows():
            if row in missing:
                missing.remove(row)
        self.assertLessEqual(len(missing), held)


class RowsTest(JoinerCase):
    def test_no_rows(self):
        rows = [(k, "a", None) for k in range(9)]
        for most in (6, 7, 50):
            self.check([], [], [(0, 0)], most)
            self.check(rows, [], [(0, 0)], most)
            self.check([], rows, [(0, 0)], most)

    def test_one_row_each(self):
        for one, other in (((5, "a", 7), (5, "b", None)), ((5, "a", 7), (6, "a", 7)), ((None, "", 1), (None, "", 2))):
            for pairs in ALL_PAIRS:
                self.check([one], [other], pairs, 6)

    def test_some_rows(self):
        chance = random.Random(1)
        for most in (6, 7, 8, 9, 20, 200):
            for pairs in ALL_PAIRS:
                self.check(some_rows(chance, 25), some_rows(chance, 30), pairs, most)

    def test_counts_of_rows_about_the_room(self):
        for most in (6, 7, 8):
            for many in range(2 * most + 2):
                other = [(k % 4, "a", k) for k in range(many)]
                self.check([(k % 5, "b", k) for k in range(5)], other, [(0, 0)], most)

    def test_rows_pairs_and_all_as_lists_and_tuples(self):
        chance = random.Random(2)
        one, other = some_rows(chance, 12), some_rows(chance, 14)
        self.check([list(row) for row in one], [list(row) for row in other], ([0, 0], [1, 1]), 6)
        joiner = Joiner([[0, 0]], True, 3, Room(6), Parts())
        for row in other:
            joiner.feed_other(list(row))
        for row in one:
            joiner.feed_one(list(row))
        self.assertTrue(all(isinstance(row, tuple) for row in rows_left(joiner)))


class KeysTest(JoinerCase):
    def test_all_alike(self):
        one = [(5, "a", k) for k in range(20)]
        other = [(k, "b", 5) for k in range(30)]
        for most in (6, 7, 40, 100):
            self.check(one, other, [(0, 2)], most)

    def test_all_unlike(self):
        one = [(k * 7 % 120, "a", k) for k in range(120)]
        other = [(k * 11 % 120, "b", k) for k in range(60)]
        self.check(one, other, [(0, 0)], 6)
        self.check(other, one[:100], [(0, 0)], 6)

    def test_open_ones_have_no_mates(self):
        one = [(None, "a", 1), (1, None, 2), (None, None, 3), (1, "a", None)] * 3
        for pairs in ([(0, 0)], [(1, 1)], [(0, 0), (1, 1)], [(2, 2)]):
            self.check(one, one, pairs, 6)
        self.check([(None, "a", k) for k in range(20)], [(None, "a", k) for k in range(20)], [(0, 0)], 6)

    def test_open_rows_of_other_are_neither_held_nor_in_parts(self):
        joiner = Joiner([(0, 0)], True, 3, *self.begun(6))
        for k in range(20):
            joiner.feed_other((None, "a", k))
        self.assertEqual((self.room.peak(), self.own_rows()), (0, []))

    def test_unlike_kinds_of_pairs(self):
        chance = random.Random(3)
        one, other = some_rows(chance, 40), some_rows(chance, 40)
        self.check(one, other, [(0, 0), (1, 1), (2, 0)], 6)
        self.check(one, other, [(0, 0), (1, 1), (0, 0)], 6)

    def test_numbers_beyond_eighteen_figures(self):
        one = [(sign * BIG ** (k % 5) + k % 3, "a", k) for k in range(15) for sign in (1, -1)]
        self.check(one, one[::-1], [(0, 0)], 6)

    def test_texts(self):
        texts = ["", " ", "~", "a", "ab", "b", "~" * 20]
        one = [(k, texts[k % 7], k) for k in range(21)]
        self.check(one, one[::-2], [(1, 1)], 6)

    def test_many_of_few_keys_and_few_of_many(self):
        other = [(k if k % 3 == 0 else 1, "a", k) for k in range(90)]
        self.check([(k, "b", 0) for k in range(12)], other, [(0, 0)], 6)


class ManyRowsTest(GatheringCase):
    def test_rooms_of_six(self):
        one = [(k * 3 % 500, "a", k) for k in range(400)]
        other = [(k * 7 % 500, "b", -k) for k in range(400)]
        for word in ("joined", "kept"):
            joiner = Joiner([(0, 0)], word == "kept", 3, *self.begun(6))
            for row in other:
                joiner.feed_other(row)
            self.assertEqual(self.room.peak() + len(self.own_rows()), 400)
            for row in one:
                joiner.feed_one(row)
            self.check_told(joiner, told_plainly((word, ONE, OTHER, [(0, 0)]), one=one, other=other))

    def test_rooms_somewhat_beyond_the_bounds(self):
        rows = [(k % 7, "a", k) for k in range(30)]
        expected = told_plainly(("kept", ONE, OTHER, [(0, 0)]), one=rows, other=rows[:-9])
        for most in (2, 3, 4, 5, 1001, 3000):
            joiner = Joiner([(0, 0)], True, 3, *self.begun(most))
            for row in rows[:-9]:
                joiner.feed_other(row)
            for row in rows:
                joiner.feed_one(row)
            self.check_told(joiner, expected)


class ByHandTest(unittest.TestCase):
    def told(self, kept, wide):
        joiner = Joiner([(0, 1)], kept, wide, Room(6), Parts())
        for row in (("x", 1), ("y", 2), ("z", 1), ("o", None), ("w", 1), ("v", 2)):
            joiner.feed_other(row)
        for row in ((2, "p"), (3, "q"), (1, "r"), (None, "s"), (2, "t")):
            joiner.feed_one(row)
        return rows_left(joiner)

    def test_joined_by_ones_order_then_others(self):
        expected = [
            (2, "p", "y", 2), (2, "p", "v", 2), (1, "r", "x", 1), (1, "r", "z", 1), (1, "r", "w", 1),
            (2, "t", "y", 2), (2, "t", "v", 2),
        ]
        self.assertEqual(self.told(False, 2), expected)

    def test_kept_has_as_many_open_cells_as_wide(self):
        for wide in (1, 2, 5, 24):
            told = self.told(True, wide)
            self.assertEqual((told[2], told[6]), ((3, "q") + (None,) * wide, (None, "s") + (None,) * wide))
            self.assertEqual(len(told), 9)

    def test_no_row_of_other_was_fed(self):
        joiner = Joiner([(0, 0)], True, 3, Room(6), Parts())
        joiner.feed_one((5,))
        self.assertEqual([joiner.next(), joiner.next()], [(5, None, None, None), None])

    def test_two_over_one_parts(self):
        parts, rooms = Parts(), [Room(6), Room(8)]
        joiners = [Joiner([(0, 0)], kept, 3, room, parts) for kept, room in zip((True, False), rooms)]
        one, other = [(k % 9, "a", k) for k in range(20)], [(k % 11, "b", k) for k in range(25)]
        for row in other:
            for joiner in joiners:
                joiner.feed_other(row)
        for row in one:
            for joiner in joiners:
                joiner.feed_one(row)
        told = [[], []]
        for _turn in range(80):
            for rows, joiner in zip(told, joiners):
                rows.append(joiner.next())
        for rows, word in zip(told, ("kept", "joined")):
            expected = told_plainly((word, ONE, OTHER, [(0, 0)]), one=one, other=other)
            self.assertEqual([row for row in rows if row is not None], expected)
        self.assertEqual([room.held() for room in rooms] + parts.numbers(), [0, 0])


class OwnTest(unittest.TestCase):
    def test_what_is_handed_in_stays_and_is_not_kept(self):
        pairs, row, mate = [[0, 0]], [1, 5], [1, 6]
        joiner = Joiner(pairs, True, 2, Room(6), Parts())
        for _turn in range(6):
            joiner.feed_other(mate)
        joiner.feed_one(row)
        self.assertEqual((pairs, row, mate), ([[0, 0]], [1, 5], [1, 6]))
        pairs[0][1] = 1
        pairs.append((1, 1))
        row[0], mate[0], mate[1] = 2, 3, 4
        self.assertEqual(rows_left(joiner), [(1, 5, 1, 6)] * 6)


if __name__ == "__main__":
    unittest.main()
