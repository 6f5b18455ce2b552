"""Stores: tables by names, kept on a disk that may fall at any byte."""

from pillarstore.books import NO_FILE, deeds_in, entry_bytes
from pillarstore.errors import NoName, Taken
from pillarstore.heaps import pillars_in
from pillarstore.players import Player
from pillarstore.tables import Table

BOOK = "book"
ROWS_AT_A_TIME = 100


class Store:
    """Tables by names. A deed is there when its entry is whole: its heap's file stands ahead of that, drops behind."""

    def __init__(self, disk):
        self.store_disk = disk
        self.tables_by_name = {}
        self.files_by_name = {}
        self.files_told = 0
        self.read_book()
        self.fill_tables()
        self.drop_other_files()

    def make(self, name, kinds, long):
        """Makes a table."""
        if name in self.tables_by_name:
            raise Taken("there is such a table")
        self.tables_by_name[name] = Table(kinds, long)
        self.write_down(("make", name, kinds, long))

    def put(self, name, rows):
        """Puts rows in a table; their numbers are told."""
        table = self.table_kept(name)
        numbers = table.put(rows)
        number = self.new_file(table.heap_row(table.heap_count() - 1)) if numbers else NO_FILE
        self.write_down(("put", name, len(numbers), number))
        return numbers

    def take(self, name, test):
        """Marks the rows of a table that meet a test; their numbers are told."""
        numbers = self.table_kept(name).take(test)
        self.write_down(("take", name, numbers))
        return numbers

    def pour(self, name, first, last):
        """Makes one heap of a table's heaps from first to last; how many rows are left out is told."""
        table = self.table_kept(name)
        heaps_beside = table.heap_count() - (last - first + 1)
        gone = table.pour(first, last)
        is_heap_left = table.heap_count() > heaps_beside
        number = self.new_file(table.heap_row(first)) if is_heap_left else NO_FILE
        self.write_down(("pour", name, first, last, number))
        return gone

    def forget(self, name, moment):
        """Makes a moment the oldest that a table can be asked of."""
        self.table_kept(name).forget(moment)
        self.write_down(("forget", name, moment))

    def names(self):
        """The names of the tables, as they were made."""
        return list(self.tables_by_name)

    def table(self, name):
        """A table of the asker's own, like the one of that name."""
        return self.table_kept(name).own_copy()

    def ask(self, question, moments, most):
        """The list of all rows that a question tells."""
        player = Player(question, self.tables_by_name, moments, most)
        rows = []
        some = player.next(ROWS_AT_A_TIME)
        while some:
            rows.extend(some)
            some = player.next(ROWS_AT_A_TIME)
        return rows

    def table_kept(self, name):
        """The table of a name."""
        if name not in self.tables_by_name:
            raise NoName("no such table")
        return self.tables_by_name[name]

    def new_file(self, heap_row):
        """Puts a heap's row of bytes in a new file, whose number is told."""
        file_name = heap_file(self.files_told)
        self.store_disk.make(file_name)
        self.store_disk.add(file_name, heap_row)
        return self.files_told

    def write_down(self, deed):
        """Puts a deed's entry in the book; then the files of the heaps that it poured go."""
        self.store_disk.add(BOOK, entry_bytes(deed))
        for number in self.files_left_by(deed):
            self.store_disk.drop(heap_file(number))

    def files_left_by(self, deed):
        """Keeps which files a table's heaps stand in; the numbers of those that are of no use behind the deed."""
        word, name, *rest = deed
        if word == "make":
            self.files_by_name[name] = []
        if word not in ("put", "pour"):
            return []
        files = self.files_by_name[name]
        first, behind = (rest[0], rest[1] + 1) if word == "pour" else (len(files), len(files))
        left = files[first:behind]
        new = [] if rest[-1] == NO_FILE else [rest[-1]]
        files[first:behind] = new
        self.files_told += len(new)
        return left

    def read_book(self):
        """Does the book's deeds again, all but the rows; what stands behind its last whole entry is cut off."""
        if BOOK not in self.store_disk.names():
            self.store_disk.make(BOOK)
        book = self.store_disk.read(BOOK)
        deeds, behind = deeds_in(book)
        for deed in deeds:
            self.do_again(deed)
            self.files_left_by(deed)
        if behind < len(book):
            self.store_disk.cut(BOOK, behind)

    def do_again(self, deed):
        """Does a deed of the book again, all but the rows: files of heaps that were poured since are gone."""
        word, name, *rest = deed
        if word == "make":
            kinds, long = rest
            self.tables_by_name[name] = Table(kinds, long)
        elif word == "put":
            self.tables_by_name[name].begin_rows(rest[0])
        elif word == "take":
            self.tables_by_name[name].mark_rows(rest[0])
        elif word == "forget":
            self.tables_by_name[name].forget(rest[0])

    def fill_tables(self):
        """Reads the rows of all tables from the files of their heaps."""
        for name, table in self.tables_by_name.items():
            rows = [self.store_disk.read(heap_file(number)) for number in self.files_by_name[name]]
            table.fill([pillars_in(row) for row in rows])

    def drop_other_files(self):
        """Drops the files that are neither the book nor a heap of a table."""
        heaps = [heap_file(number) for files in self.files_by_name.values() for number in files]
        for name in self.store_disk.names():
            if name != BOOK and name not in heaps:
                self.store_disk.drop(name)


def heap_file(number):
    """The name of a heap's file."""
    return f"h{number}"
