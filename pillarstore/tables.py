"""Tables: rows put in by heaps, taken out by marks, told as of a moment."""

from pillarstore.cells import fits
from pillarstore.errors import BadRow, NoHeap, NoMoment
from pillarstore.heaps import BORN_PLACE, FIRST_COLUMN, NUMBER_PLACE, bytes_of, cells_of, entries_of, pillars_of
from pillarstore.rowtests import moved
from pillarstore.sieves import Walk, found_in


class Table:
    """A table. A heap is kept as its pillars: these never change, so who was given them may go on reading."""

    def __init__(self, kinds, long):
        self.column_kinds = list(kinds)
        self.span = long
        self.newest_moment = 0
        self.oldest_moment = 0
        self.next_number = 0
        self.piles = []
        self.marked = {}

    def put(self, rows):
        """Puts rows in, at the next moment, as a heap behind the others; their numbers are told."""
        for place, row in enumerate(rows):
            if not is_row_of(row, self.column_kinds):
                raise BadRow(place)
        numbers = self.begin_rows(len(rows))
        entries = [(number, self.newest_moment, row) for number, row in zip(numbers, rows)]
        self.piles.extend(self.piled(entries))
        return numbers

    def take(self, test):
        """Marks the rows that meet a test with the next moment; their numbers are told."""
        numbers = self.numbers_found(self.newest_moment, test)
        self.mark_rows(numbers)
        return numbers

    def pour(self, first, last):
        """Makes one heap of those from first to last, without the rows that are gone; how many these are is told."""
        if not 0 <= first <= last < len(self.piles):
            raise NoHeap("no such heaps")
        entries = []
        for pillars in self.piles[first:last + 1]:
            entries.extend(entries_of(pillars))
        left = [entry for entry in entries if not self.is_gone(entry[0])]
        gone = [number for number, born, row in entries if self.is_gone(number)]
        self.piles[first:last + 1] = self.piled(left)
        for number in gone:
            del self.marked[number]
        return len(gone)

    def forget(self, moment):
        """Makes a moment the oldest that can be asked of."""
        self.require_moment(moment)
        self.oldest_moment = moment

    def now(self):
        """The moment of the last put or take."""
        return self.newest_moment

    def oldest(self):
        """The oldest moment that can be asked of."""
        return self.oldest_moment

    def long(self):
        """How many cells a stretch has."""
        return self.span

    def kinds(self):
        """The kinds of the columns."""
        return list(self.column_kinds)

    def heaps(self):
        """The heaps' rows of bytes."""
        return [self.heap_row(at) for at in range(self.heap_count())]

    def marks(self):
        """The pairs (number, moment) of the rows that are marked, rising."""
        return sorted(self.marked.items())

    def rows_at(self, moment):
        """The rows that are there at a moment, by numbers."""
        places = list(range(FIRST_COLUMN, FIRST_COLUMN + len(self.column_kinds)))
        return self.found(moment, ("always",), places)

    def numbers_at(self, moment):
        """The numbers of the rows that are there at a moment, rising."""
        return self.numbers_found(moment, ("always",))

    def begin_rows(self, many):
        """The next moment begins with so many new rows; their numbers are told."""
        self.newest_moment += 1
        first = self.next_number
        self.next_number += many
        return list(range(first, self.next_number))

    def mark_rows(self, numbers):
        """The next moment begins, and rows are marked with it."""
        self.newest_moment += 1
        for number in numbers:
            self.marked[number] = self.newest_moment

    def heap_count(self):
        """How many heaps there are."""
        return len(self.piles)

    def heap_row(self, at):
        """The row of bytes of the heap at a place."""
        return bytes_of(self.column_kinds, self.span, self.piles[at])

    def fill(self, piles):
        """Heaps, each as its pillars, become this table's; marks of rows that are in none of them go."""
        self.piles = list(piles)
        there = {number: True for pillars in piles for number in cells_of(pillars[NUMBER_PLACE])}
        self.marked = {number: moment for number, moment in self.marked.items() if number in there}

    def own_copy(self):
        """A table like this one; what is done to one changes nothing of the other."""
        table = Table(self.column_kinds, self.span)
        table.newest_moment = self.newest_moment
        table.oldest_moment = self.oldest_moment
        table.next_number = self.next_number
        table.piles = list(self.piles)
        table.marked = dict(self.marked)
        return table

    def numbers_found(self, moment, test):
        """The numbers of the rows that are there at a moment and meet a test."""
        return [row[0] for row in self.found(moment, test, [NUMBER_PLACE])]

    def found(self, moment, test, places):
        """The cells at places of the heaps' pillars, of the rows that are there at a moment and meet a test."""
        pillar_test = self.pillar_test(moment, test)
        rows = []
        for walk in self.walks():
            for s in range(walk.stretches()):
                rows.extend(found_in(walk, s, pillar_test, places))
        return rows

    def pillar_test(self, moment, test):
        """The test of a heap's pillars that the rows meet which are there at a moment and meet a test of columns."""
        self.require_moment(moment)
        numbers = sorted([number for number, marked_at in self.marked.items() if marked_at <= moment])
        born_by_then = ("cell", BORN_PLACE, ("<=", moment))
        marked_by_then = ("cell", NUMBER_PLACE, ("among", tuple(numbers)))
        return "both", born_by_then, ("both", ("not", marked_by_then), moved(test, FIRST_COLUMN))

    def walks(self):
        """A walk through each heap's pillars, as the heaps are now."""
        return [Walk(pillars) for pillars in self.piles]

    def require_moment(self, moment):
        """Refuses a moment that can not be asked of."""
        if not self.oldest_moment <= moment <= self.newest_moment:
            raise NoMoment("no such moment")

    def is_gone(self, number):
        """Whether a row is there at no moment that can be asked of."""
        return number in self.marked and self.marked[number] <= self.oldest_moment

    def piled(self, entries):
        """The list of the heap of entries: of none there is no heap."""
        return [pillars_of(len(self.column_kinds), self.span, entries)] if entries else []


def is_row_of(thing, kinds):
    """Whether a thing of any kind is a row of columns of these kinds."""
    if not isinstance(thing, (list, tuple)) or len(thing) != len(kinds):
        return False
    return all([fits(cell, kind) for cell, kind in zip(thing, kinds)])
