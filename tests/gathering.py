"""What the tests of Groupers, Joiners and Windowers need: rows with few unlike cells, and parts of others."""

import unittest

from pillarstore.plainly import rows_of
from pillarstore.rooms import Parts, Room

BIG = 10 ** 25
NUMBERS = [None, 0, 1, -1, 2, 3, BIG, -BIG]
TEXTS = [None, "", "a", "b", "ab", "~"]


def rows_left(teller):
    """All rows that are still to come."""
    rows = []
    while (row := teller.next()) is not None:
        rows.append(row)
    return rows


def some_rows(chance, many):
    """Rows of a number, a text and a number, with many like cells and open ones."""
    return [(chance.choice(NUMBERS), chance.choice(TEXTS), chance.choice(NUMBERS)) for _row in range(many)]


def told_plainly(question, **rows):
    """The rows of a question by the plain reading, of tables of a number, a text and a number."""
    return rows_of(question, {name: ["number", "text", "number"] for name in rows}, rows)


def rows_in(parts, numbers):
    """All rows that stand in parts."""
    return [parts.row(number, k) for number in numbers for k in range(parts.many(number))]


class GatheringCase(unittest.TestCase):
    """Rows fed and told in a room of its own, over Parts in which a part of another one stands."""

    def begun(self, most):
        """A room, and Parts with one part that is not its own."""
        self.room, self.parts = Room(most), Parts()
        self.parts.begin()
        self.parts.add(0, ("of another one",))
        return self.room, self.parts

    def own_rows(self):
        """All rows that stand in parts that were begun since."""
        return rows_in(self.parts, [number for number in self.parts.numbers() if number != 0])

    def check_end(self, teller):
        """Behind the last row: None again and again, nothing held, no part of its own there."""
        for _turn in range(3):
            self.assertIsNone(teller.next())
            self.assertEqual((self.room.held(), self.parts.numbers()), (0, [0]))
        self.assertEqual(rows_in(self.parts, [0]), [("of another one",)])
        self.assertLessEqual(self.room.peak(), self.room.most())
        self.check_log()

    def check_log(self):
        """Each part but the other one's was begun once and dropped once."""
        begun = [event[1] for event in self.parts.log() if event[0] == "begin"]
        dropped = [event[1] for event in self.parts.log() if event[0] == "drop"]
        self.assertEqual(begun, list(range(len(begun))))
        self.assertEqual(sorted(dropped), begun[1:])

    def check_told(self, teller, expected):
        """Asks for all rows, and at each what is held."""
        for at, row in enumerate(expected):
            self.assertEqual(teller.next(), row, at)
            self.assertLessEqual(self.room.held(), self.room.most())
        self.check_end(teller)
