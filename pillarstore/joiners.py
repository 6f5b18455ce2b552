"""Joiners: rows of one with their mates of other, within a room and by parts where the room does not do."""

from pillarstore.groupers import part_of
from pillarstore.plainly import cells_at

# Parts with more rows than these are parted again, as a part is gone through for each row that may have mates in it.
FEW_ROWS = 8
MOST_LEVELS = 8


class Branches:
    """Rows in parts by part_of their cells at places; a part is known by the ways that lead to it, level by level."""

    def __init__(self, places, parts):
        self.key_places = places
        self.shared_parts = parts
        self.numbers_by_path = {}
        self.parted_paths = {}

    def put_away(self, row):
        """Puts a row behind the others of its part."""
        path = self.path_of(cells_at(row, self.key_places))
        if path not in self.numbers_by_path:
            self.numbers_by_path[path] = self.shared_parts.begin()
        self.shared_parts.add(self.numbers_by_path[path], row)

    def path_of(self, cells):
        """The ways to the part of rows with these cells."""
        path = (part_of(cells, 0),)
        while path in self.parted_paths:
            path = (*path, part_of(cells, len(path)))
        return path

    def number_of(self, cells):
        """The number of the part of rows with these cells, None where there is none."""
        return self.numbers_by_path.get(self.path_of(cells))

    def part_again(self):
        """Parts what has many rows, level by level."""
        for level in range(1, MOST_LEVELS):
            for path in list(self.numbers_by_path):
                if len(path) == level and self.shared_parts.many(self.numbers_by_path[path]) > FEW_ROWS:
                    self.part_one(path)

    def part_one(self, path):
        """The rows of a part go on to the parts of the next level."""
        number = self.numbers_by_path[path]
        del self.numbers_by_path[path]
        self.parted_paths[path] = True
        for k in range(self.shared_parts.many(number)):
            self.put_away(self.shared_parts.row(number, k))
        self.shared_parts.drop(number)

    def drop_all(self):
        """Drops the parts that are there."""
        for number in sorted(self.numbers_by_path.values()):
            self.shared_parts.drop(number)
        self.numbers_by_path = {}


class Joiner:
    """The rows of "joined" or "kept": one's rows stand in a part, and each is told with its mates in turn."""

    def __init__(self, pairs, kept, wide, room, parts):
        self.one_places = [pair[0] for pair in pairs]
        self.other_places = [pair[1] for pair in pairs]
        # What stands behind a row without a mate, None where such a row is left out.
        self.open_mate = (None,) * wide if kept else None
        self.shared_room = room
        self.shared_parts = parts
        self.mates_by_cells = {}
        self.mates_held = 0
        self.branches = Branches(self.other_places, parts)
        self.one_number = None
        self.feeding = True
        self.ones_begun = 0
        self.row_at_hand = None
        self.key_at_hand = None
        self.part_at_hand = None
        self.rows_looked_at = 0
        self.is_mated = False

    def feed_other(self, row):
        """Takes a row of other in; with an open cell it is no row's mate."""
        cells = cells_at(row, self.other_places)
        if None in cells:
            return
        if self.mates_held < self.shared_room.most() // 2:
            self.shared_room.hold(1)
            self.mates_held += 1
            self.mates_by_cells.setdefault(cells, []).append(tuple(row))
        else:
            self.branches.put_away(row)

    def feed_one(self, row):
        """Takes a row of one in."""
        if self.one_number is None:
            self.one_number = self.shared_parts.begin()
        self.shared_parts.add(self.one_number, row)

    def next(self):
        """The next row, None behind the last."""
        if self.feeding:
            self.feeding = False
            self.branches.part_again()
            self.take_in_hand()
        while self.row_at_hand is not None:
            mate = self.next_mate()
            if mate is not None:
                return self.row_at_hand + mate
            self.shared_room.free(1)
            self.take_in_hand()
        return None

    def take_in_hand(self):
        """Goes to one's next row, which is held; behind the last all is let go."""
        self.row_at_hand = self.next_of_one()
        if self.row_at_hand is None:
            self.let_go()
            return
        self.shared_room.hold(1)
        self.key_at_hand = cells_at(self.row_at_hand, self.one_places)
        self.part_at_hand = self.branches.number_of(self.key_at_hand)
        self.rows_looked_at = 0
        self.is_mated = False

    def next_of_one(self):
        """One's next row, None behind the last."""
        if self.one_number is None:
            return None
        self.ones_begun += 1
        return self.shared_parts.row(self.one_number, self.ones_begun - 1)

    def next_mate(self):
        """The next row to stand behind the one at hand, None where there is none left."""
        row = self.next_looked_at()
        while row is not None and cells_at(row, self.other_places) != self.key_at_hand:
            row = self.next_looked_at()
        if row is None and not self.is_mated:
            row = self.open_mate
        self.is_mated = True
        return row

    def next_looked_at(self):
        """The next row of other that may be a mate: the held ones were fed ahead of those in the part."""
        at = self.rows_looked_at
        self.rows_looked_at += 1
        mates = self.mates_by_cells.get(self.key_at_hand, [])
        if at < len(mates):
            return mates[at]
        if self.part_at_hand is None:
            return None
        return self.shared_parts.row(self.part_at_hand, at - len(mates))

    def let_go(self):
        """Nothing stays held, and no part stays there."""
        self.shared_room.free(self.mates_held)
        self.mates_held = 0
        self.mates_by_cells = {}
        self.branches.drop_all()
        if self.one_number is not None:
            self.shared_parts.drop(self.one_number)
            self.one_number = None
