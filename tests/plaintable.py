"""A table kept plainly, row by row, to hold the program's against; and deeds done on both."""

from pillarstore.heaps import heap_bytes
from pillarstore.rowtests import row_meets

KINDS = ["number", "text", "number"]
TESTS = (
    ("always",), ("not", ("always",)), ("cell", 0, ("open",)), ("cell", 0, ("<", 3)), ("cell", 1, (">=", "b")),
    ("cell", 1, ("among", ["a", "c"])), ("cells", 0, "<=", 2), ("cell", 2, ("<>", 4)),
    ("both", ("cell", 0, (">", 1)), ("not", ("cell", 1, ("=", "a")))),
    ("either", ("cell", 2, ("=", 0)), ("both", ("cells", 2, ">", 0), ("cell", 1, ("open",)))),
)


class PlainTable:
    """Each row with its born; heaps as lists of numbers."""

    def __init__(self, kinds, long):
        self.kinds, self.long = kinds, long
        self.now = self.oldest = self.next = 0
        self.rows, self.marks, self.heaps = {}, {}, []

    def put(self, rows):
        self.now += 1
        numbers = list(range(self.next, self.next + len(rows)))
        self.next += len(rows)
        self.rows.update({number: (self.now, tuple(row)) for number, row in zip(numbers, rows)})
        self.heaps += [numbers] if numbers else []
        return list(numbers)

    def take(self, test):
        numbers = [number for number in self.numbers_at(self.now) if row_meets(self.rows[number][1], test)]
        self.now += 1
        self.marks.update({number: self.now for number in numbers})
        return numbers

    def pour(self, first, last):
        numbers = [number for heap in self.heaps[first:last + 1] for number in heap]
        gone = [number for number in numbers if self.marks.get(number, self.oldest + 1) <= self.oldest]
        left = [number for number in numbers if number not in gone]
        self.heaps[first:last + 1] = [left] if left else []
        for number in gone:
            del self.rows[number], self.marks[number]
        return len(gone)

    def forget(self, moment):
        self.oldest = moment

    def numbers_at(self, moment):
        born = [number for number in sorted(self.rows) if self.rows[number][0] <= moment]
        return [number for number in born if self.marks.get(number, moment + 1) > moment]

    def rows_at(self, moment):
        return [self.rows[number][1] for number in self.numbers_at(moment)]

    def heap_rows(self):
        entries = [[(number, *self.rows[number]) for number in heap] for heap in self.heaps]
        return [heap_bytes(self.kinds, self.long, heap) for heap in entries]


def some_rows(chance, many):
    """Rows of KINDS with many like cells and many open ones."""
    numbers = [None, 0, 1, 2, 3, 4, 4, 4]
    texts = [None, "a", "a", "b", "c"]
    return [(chance.choice(numbers), chance.choice(texts), chance.choice(numbers)) for _row in range(many)]


def some_deed(chance, plain):
    """A deed that the table takes: its name and what is handed in."""
    deed = chance.choice(["put", "put", "put", "take", "take", "pour", "pour", "forget"])
    if deed == "put":
        return deed, (some_rows(chance, chance.choice([0, 1, 2, 3, 5, 9])),)
    if deed == "take":
        return deed, (chance.choice(TESTS),)
    if deed == "pour" and plain.heaps:
        first = chance.randrange(len(plain.heaps))
        return deed, (first, chance.randrange(first, len(plain.heaps)))
    return "forget", (chance.randint(plain.oldest, (plain.oldest + plain.now) // 2),)
