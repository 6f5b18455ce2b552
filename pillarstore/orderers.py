"""Orderers: rows put in order within a room, by parts where the room does not do."""

from pillarstore.ordering import in_order, stands_ahead


class Merge:
    """The rows of parts that are in order each, told in order; one row of each part that has more is held."""

    def __init__(self, part_numbers, items, room, parts):
        self.merged_numbers = list(part_numbers)
        self.merge_items = items
        self.shared_room = room
        self.shared_parts = parts
        self.heads = [None] * len(part_numbers)
        self.rows_read = [0] * len(part_numbers)
        for at in range(len(part_numbers)):
            self.hold_next(at)

    def hold_next(self, at):
        """Holds the next row of a part, where it has one."""
        row = self.shared_parts.row(self.merged_numbers[at], self.rows_read[at])
        if row is not None:
            self.shared_room.hold(1)
            self.rows_read[at] += 1
        self.heads[at] = row

    def least_head(self):
        """The place of the first part whose held row none stands ahead of, None where no row is held."""
        least = None
        for at, head in enumerate(self.heads):
            if head is not None and (least is None or stands_ahead(head, self.heads[least], self.merge_items)):
                least = at
        return least

    def next(self):
        """The next row, None behind the last."""
        at = self.least_head()
        if at is None:
            return None
        row = self.heads[at]
        self.shared_room.free(1)
        self.hold_next(at)
        return row


class Orderer:
    """Rows in order by items, alike ones as they were fed; at most limit rows are held in a room."""

    def __init__(self, items, limit, room, parts):
        self.order_items = [tuple(item) for item in items]
        # Below 2 no round would make the parts fewer.
        self.row_limit = max(2, limit)
        self.shared_room = room
        self.shared_parts = parts
        self.waiting = []
        self.own_parts = []
        self.feeding = True
        self.merge = None

    def feed(self, row):
        """Takes a row in."""
        if len(self.waiting) == self.row_limit:
            self.put_away()
        self.shared_room.hold(1)
        self.waiting.append(tuple(row))

    def next(self):
        """The next row in order, None behind the last."""
        if self.feeding:
            self.end_feeding()
        if self.merge is None:
            return self.next_waiting()
        row = self.merge.next()
        if row is None:
            self.drop_all(self.own_parts)
            self.own_parts = []
        return row

    def next_waiting(self):
        """The next row out of the room; these stand with the last one first."""
        if not self.waiting:
            return None
        self.shared_room.free(1)
        return self.waiting.pop()

    def end_feeding(self):
        """Goes over from taking rows in to telling them."""
        self.feeding = False
        if not self.own_parts:
            self.waiting = in_order(self.waiting, self.order_items)[::-1]
            return
        self.put_away()
        while len(self.own_parts) > self.row_limit:
            self.go_round()
        self.merge = self.merge_of(self.own_parts)

    def put_away(self):
        """The rows that are held become a part."""
        number = self.shared_parts.begin()
        for row in in_order(self.waiting, self.order_items):
            self.shared_parts.add(number, row)
        self.shared_room.free(len(self.waiting))
        self.waiting = []
        self.own_parts.append(number)

    def go_round(self):
        """Makes one part of each limit of them, in order; one alone stays."""
        left = []
        for at in range(0, len(self.own_parts), self.row_limit):
            some = self.own_parts[at:at + self.row_limit]
            left.append(self.made_one(some) if len(some) > 1 else some[0])
        self.own_parts = left

    def made_one(self, part_numbers):
        """The number of a new part with the rows of some in order; these are dropped."""
        number = self.shared_parts.begin()
        merge = self.merge_of(part_numbers)
        row = merge.next()
        while row is not None:
            self.shared_parts.add(number, row)
            row = merge.next()
        self.drop_all(part_numbers)
        return number

    def merge_of(self, part_numbers):
        """The rows of some parts in order."""
        return Merge(part_numbers, self.order_items, self.shared_room, self.shared_parts)

    def drop_all(self, part_numbers):
        """Drops parts in order."""
        for number in part_numbers:
            self.shared_parts.drop(number)
