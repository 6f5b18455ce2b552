"""[1], of the whole: Player, Store and desk tell the plain reading; a fall leaves each deed whole or not at all."""

import random
import unittest

from pillarstore.desk import desk_told
from pillarstore.disks import Disk
from pillarstore.plainly import rows_of
from pillarstore.players import Player
from pillarstore.stores import Store
from tests.plainstore import PlainStore, some_store_deed
from tests.plaintable import KINDS, some_rows
from tests.somequestions import some_question
from tests.writing import deed_words, question_words, rows_text

NAMES = ("t", "u")


class Shop:
    """The same deeds on a plain store, on a store, and as a desk's rows."""

    def __init__(self, chance, long):
        self.chance, self.plain, self.rows = chance, PlainStore(), []
        self.disk = Disk()
        self.store = Store(self.disk)
        for name in NAMES:
            self.do("make", name, KINDS, long)

    def do(self, word, *handed):
        self.plain.do(word, *handed)
        getattr(self.store, word)(*handed)
        self.rows.append(deed_words(word, *handed))

    def do_some(self, many):
        for _deed in range(many):
            self.do(*some_store_deed(self.chance, self.plain, NAMES))
        for name in NAMES:
            self.do("put", name, some_rows(self.chance, self.chance.randrange(15)))

    def some_moments(self):
        chance, tables = self.chance, self.plain.tables.items()
        return {name: chance.randint(table.oldest, table.now) for name, table in tables if chance.random() < 0.6}

    def told_plainly(self, question, moments):
        tables = self.plain.tables.items()
        rows = {name: table.rows_at(moments.get(name, table.now)) for name, table in tables}
        return rows_of(question, {name: KINDS for name in NAMES}, rows)

    def desk_rows(self, question, moments, most):
        ats = [f"at {name} {moment}" for name, moment in moments.items()]
        return [f"room {most}", *ats, f"ask {question_words(question)}"]


class SameRowsTest(unittest.TestCase):
    def test_by_stretches_pourings_rooms_and_batches(self):
        chance = random.Random(1)
        for turn in range(40):
            shop = Shop(chance, chance.choice([1, 2, 3, 5, 16, 64]))
            expected = []
            for _round in range(3):
                shop.do_some(6)
                for _question in range(6):
                    most = chance.choice([6, 6, 7, 12, 100, 1000])
                    question = some_question(chance, {name: KINDS for name in NAMES}, chance.randint(1, 6), most, True)
                    moments = shop.some_moments()
                    rows = shop.told_plainly(question, moments)
                    self.assertEqual(shop.store.ask(question, moments, most), rows, question)
                    self.check_player(shop, question, moments, most, rows)
                    shop.rows += shop.desk_rows(question, moments, most)
                    expected.append(rows_text(rows))
            self.assertEqual(desk_told("\n".join(shop.rows)), expected, turn)

    def check_player(self, shop, question, moments, most, expected):
        player = Player(question, {name: shop.store.table(name) for name in NAMES}, moments, most)
        many, rows, some = shop.chance.choice([1, 2, 3, 10]), [], None
        while some != []:
            some = player.next(many)
            rows += some
        self.assertEqual(rows, expected)
        self.assertLessEqual(player.peak(), most)
        self.assertEqual(player.parts(), [])

    def test_pouring_changes_no_answer(self):
        chance = random.Random(2)
        for _turn in range(20):
            shop = Shop(chance, 3)
            shop.do_some(10)
            question = some_question(chance, {name: KINDS for name in NAMES}, 5, 6, True)
            moments = shop.some_moments()
            before = shop.store.ask(question, moments, 6)
            for name in NAMES:
                heaps = len(shop.store.table(name).heaps())
                if heaps:
                    shop.store.pour(name, 0, heaps - 1)
            self.assertEqual(shop.store.ask(question, moments, 6), before)


class FallsTest(unittest.TestCase):
    def test_each_deed_is_there_whole_or_not_at_all(self):
        shop = Shop(random.Random(3), 2)
        answers, ends = [], []
        question = ("kept", ("table", "t"), ("table", "u"), [(0, 0)])
        for _deed in range(14):
            shop.do(*some_store_deed(shop.chance, shop.plain, NAMES))
            ends.append(shop.disk.steps())
            answers.append(rows_text(shop.told_plainly(question, {})))
        for k in range(ends[0], ends[-1] + 1):
            told, = desk_told("\n".join([*shop.rows, f"fall {k}", f"ask {question_words(question)}"]))
            ahead = max(at for at, end in enumerate(ends) if end <= k)
            # A pour's entry is whole ahead of its drops, but a pour changes no answer.
            self.assertIn(told, answers[ahead:ahead + 2])
            if k in ends:
                self.assertEqual(told, answers[ahead])


if __name__ == "__main__":
    unittest.main()
