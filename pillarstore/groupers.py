"""Groupers: rows grouped and counted within a room, by parts where the room does not do."""

from pillarstore.byterows import cell_bytes
from pillarstore.orderers import Orderer
from pillarstore.plainly import cells_at, count_cell

WAYS = 4
LEVELS_OF_A_TURN = 8
PART_BOUND = 65521


def part_of(cells, level):
    """Which of four parts cells go to at a level."""
    n = level // LEVELS_OF_A_TURN
    for cell in cells:
        for byte in cell_bytes(cell):
            n = (n * 31 + byte + 1) % PART_BOUND
    for turn in range(level % LEVELS_OF_A_TURN):
        n = n // WAYS
    return n % WAYS


class Grouper:
    """The rows of "grouped" of what is fed; a held group counts as one row of the room."""

    def __init__(self, places, counts, room, parts):
        self.group_places = list(places)
        self.group_counts = [tuple(count) for count in counts]
        self.shared_room = room
        self.shared_parts = parts
        # At least one: without a held group no level would make the rows fewer.
        self.most_groups = max(1, room.most() // 2)
        self.level = 0
        self.groups = {}
        self.numbers_by_way = {}
        self.orderer = None
        if not self.group_places:
            self.hold_group(())

    def feed(self, row):
        """Takes a row in."""
        cells = cells_at(row, self.group_places)
        if cells not in self.groups and len(self.groups) >= self.most_groups:
            self.put_away(part_of(cells, self.level), row)
            return
        if cells not in self.groups:
            self.hold_group(cells)
        self.groups[cells] = [
            counted_in(so_far, row, count) for so_far, count in zip(self.groups[cells], self.group_counts)
        ]

    def next(self):
        """The next group's row, None behind the last."""
        if self.orderer is None:
            self.end_feeding()
        return self.orderer.next()

    def hold_group(self, cells):
        """Holds a new group, of no rows yet."""
        self.shared_room.hold(1)
        self.groups[cells] = [count_cell([], count) for count in self.group_counts]

    def put_away(self, way, row):
        """Puts a row of a group that is not held in one of the four parts."""
        if way not in self.numbers_by_way:
            self.numbers_by_way[way] = self.shared_parts.begin()
        self.shared_parts.add(self.numbers_by_way[way], row)

    def end_feeding(self):
        """All groups go to an Orderer: the held ones, then those of each part, its own parts ahead of the next one."""
        items = [(place, False) for place in range(len(self.group_places))]
        self.orderer = Orderer(items, self.most_groups, self.shared_room, self.shared_parts)
        left = self.handed_over()
        while left:
            number, self.level = left.pop()
            for k in range(self.shared_parts.many(number)):
                self.feed(self.shared_parts.row(number, k))
            self.shared_parts.drop(number)
            left.extend(self.handed_over())

    def handed_over(self):
        """Hands the held groups over to the Orderer; the parts beside them are told, the last one first."""
        for cells, worths in self.groups.items():
            self.shared_room.free(1)
            self.orderer.feed(cells + tuple(worths))
        ways = sorted(self.numbers_by_way, reverse=True)
        left = [(self.numbers_by_way[way], self.level + 1) for way in ways]
        self.groups = {}
        self.numbers_by_way = {}
        return left


def counted_in(so_far, row, count):
    """A count of a group with one row more."""
    word = count[0]
    if word == "rows":
        return so_far + 1
    cell = row[count[1]]
    if cell is None:
        return so_far
    if word == "known":
        return so_far + 1
    if so_far is None:
        return cell
    if word == "sum":
        return so_far + cell
    return min(so_far, cell) if word == "least" else max(so_far, cell)
