"""A store kept plainly, to hold the program's against: its tables, its files, and what each deed does to a disk."""

import copy

from pillarstore.byterows import number_bytes, text_bytes
from pillarstore.disks import Disk
from pillarstore.heaps import sum_of
from tests.plaintable import KINDS, PlainTable, some_deed


class WatchedDisk(Disk):
    """A disk that keeps what was done to it."""

    def __init__(self):
        super().__init__()
        self.done = []

    def make(self, name):
        super().make(name)
        self.done.append(("make", name))

    def add(self, name, row):
        super().add(name, row)
        self.done.append(("add", name, list(row)))

    def cut(self, name, many):
        super().cut(name, many)
        self.done.append(("cut", name, many))

    def drop(self, name):
        super().drop(name)
        self.done.append(("drop", name))

    def taken(self):
        """What was done since it was last asked for."""
        done, self.done = self.done, []
        return done


def entry_of(first, name, numbers, behind=()):
    """An entry of the book, as [62] says it."""
    body = [first] + text_bytes(name) + [byte for number in numbers for byte in number_bytes(number)] + list(behind)
    return number_bytes(len(body)) + body + sum_of(body)


class PlainStore:
    """Tables by names; each heap's file by its number."""

    def __init__(self):
        self.tables, self.files, self.told, self.book = {}, {}, 0, []

    def do(self, deed, name, *handed):
        """Does a deed: what it tells, and what is done to the disk for it."""
        if deed == "make":
            kinds, long = handed
            self.tables[name], self.files[name] = PlainTable(list(kinds), long), []
            bits = ["number text".split().index(kind) for kind in kinds]
            return None, self.entered(entry_of(0, name, [len(kinds)], bits + [long]))
        told = getattr(self.tables[name], deed)(*handed)
        if deed == "put":
            number, done = self.new_file(name, -1 if told else None)
            self.files[name] += [number] if told else []
            return told, done + self.entered(entry_of(1, name, [len(told), number]))
        if deed == "take":
            return told, self.entered(entry_of(2, name, [len(told)] + told))
        if deed == "forget":
            return told, self.entered(entry_of(4, name, handed))
        return told, self.poured(name, *handed)

    def poured(self, name, first, last):
        poured = self.files[name][first:last + 1]
        is_left = len(self.tables[name].heaps) > len(self.files[name]) - len(poured)
        number, done = self.new_file(name, first if is_left else None)
        self.files[name][first:last + 1] = [number] if is_left else []
        drops = [("drop", f"h{number}") for number in poured]
        return done + self.entered(entry_of(3, name, [first, last, number])) + drops

    def new_file(self, name, at):
        if at is None:
            return -1, []
        number, self.told = self.told, self.told + 1
        return number, [("make", f"h{number}"), ("add", f"h{number}", self.tables[name].heap_rows()[at])]

    def entered(self, entry):
        self.book += entry
        return [("add", "book", entry)]

    def disk_files(self):
        """All files that a disk has to have."""
        files = {"book": self.book}
        for name, numbers in self.files.items():
            files.update({f"h{number}": row for number, row in zip(numbers, self.tables[name].heap_rows())})
        return files

    def state(self):
        """What told_by tells of each table, with the names as they were made."""
        return [(name, self.table_state(table)) for name, table in self.tables.items()]

    def table_state(self, table):
        at = [(table.rows_at(moment), table.numbers_at(moment)) for moment in range(table.oldest, table.now + 1)]
        marks = sorted(table.marks.items())
        return table.now, table.oldest, table.long, table.kinds, table.heap_rows(), marks, at

    def own_copy(self):
        return copy.deepcopy(self)


def some_store_deed(chance, plain, names):
    """A deed that the store takes: its word, a name, and what is handed in."""
    unmade = [name for name in names if name not in plain.tables]
    if unmade and (not plain.tables or chance.random() < 0.2):
        return "make", unmade[0], KINDS, chance.choice([1, 2, 3, 64])
    name = chance.choice(list(plain.tables))
    deed, handed = some_deed(chance, plain.tables[name])
    return (deed, name, *handed)
