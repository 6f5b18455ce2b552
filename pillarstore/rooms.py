"""Rooms, which count the rows that are held, and parts, where rows stand that are not."""

from pillarstore.errors import NoPart, NoRoom


class Room:
    """Counts the rows that are held; no more than most are."""

    def __init__(self, most):
        self.most_rows = most
        self.held_rows = 0
        self.peak_rows = 0

    def hold(self, many):
        """So many rows more are held."""
        if self.held_rows + many > self.most_rows:
            raise NoRoom("no room for so many more")
        self.held_rows += many
        self.peak_rows = max(self.peak_rows, self.held_rows)

    def free(self, many):
        """So many rows are held no more."""
        if many > self.held_rows:
            raise NoRoom("not so many are held")
        self.held_rows -= many

    def most(self):
        """How many rows can be held."""
        return self.most_rows

    def held(self):
        """How many rows are held."""
        return self.held_rows

    def peak(self):
        """The greatest that was held so far."""
        return self.peak_rows


class Parts:
    """Parts by numbers, each with its rows one behind the other."""

    def __init__(self):
        self.begun = 0
        self.part_rows = {}
        self.begins_and_drops = []

    def begin(self):
        """Begins a part without rows; its number is told."""
        number = self.begun
        self.begun += 1
        self.part_rows[number] = []
        self.begins_and_drops.append(("begin", number))
        return number

    def add(self, number, row):
        """Puts a row behind a part's others."""
        self.rows_in(number).append(tuple(row))

    def row(self, number, k):
        """The k-th row of a part, None where there is none."""
        rows = self.rows_in(number)
        return rows[k] if 0 <= k < len(rows) else None

    def many(self, number):
        """How many rows a part has."""
        return len(self.rows_in(number))

    def drop(self, number):
        """A part is there no more."""
        many = self.many(number)
        del self.part_rows[number]
        self.begins_and_drops.append(("drop", number, many))

    def numbers(self):
        """The numbers of the parts that are there, rising."""
        return sorted(self.part_rows)

    def log(self):
        """All begins and drops, as they were done."""
        return list(self.begins_and_drops)

    def rows_in(self, number):
        """The list that a part's rows stand in."""
        if number not in self.part_rows:
            raise NoPart("no such part")
        return self.part_rows[number]
