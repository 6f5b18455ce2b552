"""Windowers: rows with the cells of their windows behind them, within a room and by parts."""

from pillarstore.errors import NoRoom
from pillarstore.orderers import Orderer
from pillarstore.ordering import stands_ahead
from pillarstore.plainly import cells_at


class Windower:
    """The rows of "windowed" of what is fed.

    They are put in order by their parts and items, stand so in a part of the Parts while the cells of the windows
    are told, and are put back in the order that they were fed in. No more than one of these is at work at a time,
    so that each may have the whole room.
    """

    def __init__(self, places, items, windows, room, parts):
        require_room(windows, room.most())
        self.key_places = list(places)
        self.part_items = [tuple(item) for item in items]
        self.row_windows = [tuple(window) for window in windows]
        self.shared_parts = parts
        by_parts = [(place, False) for place in self.key_places] + self.part_items
        self.by_parts = Orderer(by_parts, room.most(), room, parts)
        self.as_fed = Orderer([(0, False)], room.most(), room, parts)
        self.rows_fed = 0
        self.feeding = True

    def feed(self, row):
        """Takes a row in; behind it stands its place, to put it back by."""
        self.by_parts.feed((*row, self.rows_fed))
        self.rows_fed += 1

    def next(self):
        """The next row with its windows' cells, None behind the last."""
        if self.feeding:
            self.feeding = False
            self.tell_windows()
        row = self.as_fed.next()
        return None if row is None else row[1:]

    def tell_windows(self):
        """Tells the windows' cells of all rows, which stand part by part, in order, meanwhile."""
        number = self.put_in_order()
        view = View(number, self.key_places, self.part_items, self.shared_parts)
        windows = [Window(window, view) for window in self.row_windows]
        while view.go_on():
            *row, place = view.row_back(0)
            cells = [window.next() for window in windows]
            self.as_fed.feed((place, *row, *cells))
        self.shared_parts.drop(number)

    def put_in_order(self):
        """The number of a new part in which all rows stand in order."""
        number = self.shared_parts.begin()
        row = self.by_parts.next()
        while row is not None:
            self.shared_parts.add(number, row)
            row = self.by_parts.next()
        return number


class View:
    """Goes from row to row of a part of the Parts in which rows alike at places stand together, in order by items."""

    def __init__(self, part_number, places, items, parts):
        self.part_number = part_number
        self.key_places = places
        self.part_items = items
        self.shared_parts = parts
        self.row_place = -1
        self.first_place = 0
        self.rank = 0

    def go_on(self):
        """Goes to the next row; whether there is one."""
        self.row_place += 1
        row = self.row_back(0)
        if row is None:
            return False
        if self.row_place == 0 or cells_at(row, self.key_places) != cells_at(self.row_back(1), self.key_places):
            self.first_place = self.row_place
            self.rank = 1
        elif stands_ahead(self.row_back(1), row, self.part_items):
            self.rank = self.place_from_one()
        return True

    def row_back(self, k):
        """The row so many places ahead of this one."""
        return self.shared_parts.row(self.part_number, self.row_place - k)

    def cell_back(self, k, place):
        """A cell of the row so many places ahead of this one, open where there is none alike at places."""
        return self.row_back(k)[place] if k < self.place_from_one() else None

    def place_from_one(self):
        """This row's place among those alike at places, from 1."""
        return self.row_place - self.first_place + 1


class Window:
    """The cells of one window, told in turn for each row that a view goes to."""

    def __init__(self, window, view):
        self.window = window
        self.view = view
        self.total = 0
        self.known = 0

    def next(self):
        """The cell of the view's row."""
        word = self.window[0]
        if word == "number":
            return self.view.place_from_one()
        if word == "rank":
            return self.view.rank
        if word == "ahead":
            return self.view.cell_back(self.window[2], self.window[1])
        return self.next_sum()

    def next_sum(self):
        """The sum of the view's row and those ahead of it that the window reaches."""
        place, back = self.window[1], self.window[2]
        if self.view.place_from_one() == 1:
            self.total = 0
            self.known = 0
        self.reckon(self.view.cell_back(0, place), 1)
        if back is not None:
            # What the window reached with the row ahead, and reaches no more.
            self.reckon(self.view.cell_back(back + 1, place), -1)
        return self.total if self.known > 0 else None

    def reckon(self, cell, times):
        """A known cell comes to the sum, or goes from it."""
        if cell is not None:
            self.total += times * cell
            self.known += times


def require_room(windows, most):
    """Refuses windows that reach too far back for a room of so many rows."""
    for window in windows:
        if len(window) == 3 and window[2] is not None and window[2] >= most // 3:
            raise NoRoom("no room for so many rows ahead")
