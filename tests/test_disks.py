"""[61], [2] and [3]: disks."""

import random
import unittest

from pillarstore.disks import Disk
from pillarstore.errors import NoFile


def told_by(disk):
    """All that a disk tells."""
    return {name: disk.read(name) for name in disk.names()}, disk.names(), disk.steps()


def disk_of(**files):
    disk = Disk()
    for name, row in files.items():
        disk.make(name)
        disk.add(name, row)
    return disk


class PlainDisk:
    """The files behind each single step, all of them kept."""

    def __init__(self):
        self.behind = [{}]

    def step(self, name, row):
        files = dict(self.behind[-1])
        if row is None:
            del files[name]
        else:
            files[name] = list(row)
        self.behind.append(files)

    def do(self, deed, name, worth):
        row = self.behind[-1].get(name)
        if deed == "make":
            self.step(name, [])
        elif deed == "add":
            for many in range(len(worth)):
                self.step(name, row + worth[:many + 1])
        elif deed == "cut":
            self.step(name, row[:worth])
        else:
            self.step(name, None)


class DeedsTest(unittest.TestCase):
    def test_a_new_disk(self):
        self.assertEqual(told_by(Disk()), ({}, [], 0))

    def test_make(self):
        disk = Disk()
        self.assertIsNone(disk.make("b"))
        self.assertEqual(told_by(disk), ({"b": []}, ["b"], 1))
        disk.make("a")
        self.assertEqual(told_by(disk), ({"a": [], "b": []}, ["a", "b"], 2))

    def test_make_in_the_place_of_one_that_is_there(self):
        disk = disk_of(a=[1, 2, 3], b=[4])
        disk.make("a")
        self.assertEqual(told_by(disk), ({"a": [], "b": [4]}, ["a", "b"], 7))
        disk.make("a")
        self.assertEqual((disk.read("a"), disk.steps()), ([], 8))

    def test_add(self):
        disk = disk_of(a=[])
        for row, whole, steps in (([], [], 1), ([7], [7], 2), ((0, 255), [7, 0, 255], 4), ([], [7, 0, 255], 4)):
            self.assertIsNone(disk.add("a", row))
            self.assertEqual((disk.read("a"), disk.steps()), (whole, steps))
        disk.add("a", list(range(200)))
        self.assertEqual((disk.read("a"), disk.steps()), ([7, 0, 255] + list(range(200)), 204))

    def test_cut(self):
        for many, left in ((0, []), (1, [5]), (2, [5, 6]), (3, [5, 6, 7]), (4, [5, 6, 7]), (1000, [5, 6, 7])):
            disk = disk_of(a=[5, 6, 7], b=[8])
            self.assertIsNone(disk.cut("a", many))
            self.assertEqual(told_by(disk), ({"a": left, "b": [8]}, ["a", "b"], 7))
            disk.add("a", [9])
            self.assertEqual(disk.read("a"), left + [9])

    def test_drop(self):
        disk = disk_of(a=[5], b=[6])
        self.assertIsNone(disk.drop("a"))
        self.assertEqual(told_by(disk), ({"b": [6]}, ["b"], 5))
        disk.make("a")
        self.assertEqual((disk.read("a"), disk.steps()), ([], 6))

    def test_read_is_no_step(self):
        disk = disk_of(a=[5])
        self.assertEqual([disk.read("a"), disk.read("a"), disk.steps()], [[5], [5], 2])

    def test_names_as_python_orders_texts(self):
        disk = Disk()
        names = ["h10", "book", "h2", "h1", "h", "", "B", "b c", "~"]
        for name in names:
            disk.make(name)
        self.assertEqual(disk.names(), ["", "B", "b c", "book", "h", "h1", "h10", "h2", "~"])

    def test_no_file(self):
        disk = disk_of(a=[5], b=[])
        disk.drop("b")
        before = told_by(disk)
        for name in ("b", "c", "", "A"):
            for deed, handed in (
                (disk.add, ([1],)), (disk.add, ([],)), (disk.cut, (0,)), (disk.cut, (9,)), (disk.drop, ()),
                (disk.read, ()),
            ):
                with self.assertRaises(NoFile):
                    deed(name, *handed)
                self.assertEqual(told_by(disk), before)
        self.assertEqual(told_by(disk.fallen(4)), before)


class FallenTest(unittest.TestCase):
    def check_each_step(self, disk, plain):
        self.assertEqual(disk.steps(), len(plain.behind) - 1)
        for k, files in enumerate(plain.behind):
            self.assertEqual(told_by(disk.fallen(k)), (files, sorted(files), k))

    def test_by_hand(self):
        disk = disk_of(a=[5, 6])
        disk.cut("a", 1)
        disk.make("b")
        disk.drop("a")
        told = [told_by(disk.fallen(k))[0] for k in range(7)]
        self.assertEqual(told, [{}, {"a": []}, {"a": [5]}, {"a": [5, 6]}, {"a": [5]}, {"a": [5], "b": []}, {"b": []}])

    def test_each_step_of_many_deeds(self):
        chance = random.Random(1)
        for _turn in range(12):
            disk, plain = Disk(), PlainDisk()
            for _deed in range(40):
                name, there = chance.choice("abc"), plain.behind[-1]
                deed = chance.choice(["make", "add", "add", "cut", "drop"]) if name in there else "make"
                worth = {"add": [chance.randrange(256) for _byte in range(chance.choice([0, 1, 2, 7]))],
                         "cut": chance.randrange(9)}.get(deed)
                plain.do(deed, name, worth)
                getattr(disk, deed)(name, *([] if worth is None else [worth]))
                self.assertEqual(told_by(disk)[0], plain.behind[-1])
            self.check_each_step(disk, plain)

    def test_fallen_of_a_fallen_one(self):
        disk = disk_of(a=[5, 6, 7], b=[8])
        disk.drop("a")
        for k in range(disk.steps() + 1):
            for j in range(k + 1):
                self.assertEqual(told_by(disk.fallen(k).fallen(j)), told_by(disk.fallen(j)))

    def test_deeds_on_a_fallen_one_go_on_from_its_steps(self):
        disk = disk_of(a=[5, 6, 7])
        fallen = disk.fallen(2)
        fallen.add("a", [9, 9])
        fallen.make("c")
        self.assertEqual(told_by(fallen), ({"a": [5, 9, 9], "c": []}, ["a", "c"], 5))
        self.assertEqual([fallen.fallen(k).read("a") for k in range(1, 6)], [[], [5], [5, 9], [5, 9, 9], [5, 9, 9]])

    def test_neither_changes_the_other(self):
        disk = disk_of(a=[5, 6, 7], b=[8])
        for k in range(disk.steps() + 1):
            before = told_by(disk)
            fallen = disk.fallen(k)
            for name in ("a", "b"):
                fallen.make(name)
                fallen.add(name, [1])
            fallen.drop("a")
            self.assertEqual(told_by(disk), before)
        fallen = disk.fallen(disk.steps())
        before = told_by(fallen)
        disk.add("a", [1])
        disk.cut("b", 0)
        self.assertEqual(told_by(fallen), before)
        self.assertEqual(told_by(disk)[0], {"a": [5, 6, 7, 1], "b": []})

    def test_somewhat_beyond_is_no_error(self):
        disk = disk_of(a=[5])
        self.assertEqual(told_by(disk.fallen(3)), told_by(disk))
        self.assertEqual(told_by(disk.fallen(-1)), ({}, [], 0))


class OwnTest(unittest.TestCase):
    def test_rows_are_not_kept_as_handed_in(self):
        disk, row = disk_of(a=[]), [5, 6]
        disk.add("a", row)
        self.assertEqual(row, [5, 6])
        row.append(7)
        row[0] = 0
        self.assertEqual((disk.read("a"), disk.fallen(3).read("a")), ([5, 6], [5, 6]))

    def test_what_is_told_is_the_askers_own(self):
        disk = disk_of(a=[5, 6])
        disk.read("a").clear()
        disk.names().clear()
        disk.fallen(3).read("a").clear()
        self.assertEqual(told_by(disk), ({"a": [5, 6]}, ["a"], 3))
        self.assertIsNot(disk.read("a"), disk.read("a"))


if __name__ == "__main__":
    unittest.main()
