"""Heaps: entries (number, born, row) kept by pillars, as rows of bytes and back."""

from pillarstore.byterows import number_bytes, take_byte, take_number
from pillarstore.cells import kind_of
from pillarstore.errors import BadBytes
from pillarstore.pillars import Pillar
from pillarstore.unpressing import MOST_CELLS, cells_in, take_count, unpressed

# The places among a heap's pillars: the columns' stand behind these two.
NUMBER_PLACE = 0
BORN_PLACE = 1
FIRST_COLUMN = 2

HEAP_MARK = 72
KINDS = ("number", "text")
MOST_COLUMNS = 8
SUM_BYTES = 4


def sum_of(row):
    """The sum that guards a row, as four bytes."""
    total = sum([(place + 1) * (byte + 1) for place, byte in enumerate(row)])
    return [(total >> bits) & 255 for bits in (0, 8, 16, 24)]


def pillars_of(columns, long, entries):
    """The pillars of entries whose rows have so many columns."""
    lines = [(number, born, *row) for number, born, row in entries]
    return [Pillar(long, [line[place] for line in lines]) for place in range(FIRST_COLUMN + columns)]


def entries_of(pillars):
    """The entries of a heap's pillars."""
    columns = [cells_of(pillar) for pillar in pillars]
    return [(number, born, tuple(row)) for number, born, *row in zip(*columns)]


def cells_of(pillar):
    """All cells of a pillar."""
    cells = []
    for s in range(len(pillar.notes())):
        cells.extend(pillar.stretch(s))
    return cells


def bytes_of(kinds, long, pillars):
    """The row of bytes of a heap's pillars."""
    row = [HEAP_MARK] + number_bytes(len(kinds)) + [KINDS.index(kind) for kind in kinds] + [long]
    row.extend(number_bytes(pillars[NUMBER_PLACE].many()))
    for pillar in pillars:
        for stretch in pillar.rows():
            row.extend(number_bytes(len(stretch)))
            row.extend(stretch)
    return row + sum_of(row)


def heap_bytes(kinds, long, entries):
    """The row of bytes of a heap of entries."""
    return bytes_of(kinds, long, pillars_of(len(kinds), long, entries))


def pillars_in(row):
    """The pillars of a row that heap_bytes told, refused where the sum is not of it; nothing else is asked again."""
    body = body_of(row)
    columns, at = take_number(body, 1)
    long = body[at + columns]
    many, at = take_number(body, at + columns + 1)
    pillars = []
    for place in range(FIRST_COLUMN + columns):
        cells = []
        while len(cells) < many:
            size, first = take_number(body, at)
            at = first + size
            cells.extend(cells_in(body[first:at]))
        pillars.append(Pillar(long, cells))
    return pillars


class Heap:
    """A heap read from its row of bytes."""

    def __init__(self, row):
        body = body_of(row)
        kinds, long, many, at = take_head(body)
        columns = []
        for place in range(FIRST_COLUMN + len(kinds)):
            cells, at = take_column(body, at, (many + long - 1) // long)
            columns.append(cells)
        if at < len(body):
            raise BadBytes("behind")
        # Only what can be entries can be pressed again, to see whether it is pressed as told.
        if not can_be_entries(kinds, many, columns):
            raise BadBytes("form")
        self.column_kinds = kinds
        self.span = long
        self.columns = [Pillar(long, cells) for cells in columns]
        if bytes_of(kinds, long, self.columns) != list(row):
            raise BadBytes("form")

    def long(self):
        """How many cells a stretch has."""
        return self.span

    def kinds(self):
        """The kinds of the columns."""
        return list(self.column_kinds)

    def entries(self):
        """The entries (number, born, row)."""
        return entries_of(self.columns)

    def pillars(self):
        """The pillars of the numbers, of the borns and of each column."""
        return list(self.columns)


def body_of(row):
    """What stands ahead of the sum, refused where the sum is not of it."""
    body = row[:-SUM_BYTES]
    if len(row) < SUM_BYTES or list(row[-SUM_BYTES:]) != sum_of(body):
        raise BadBytes("sum")
    return body


def take_head(row):
    """A heap's kinds, long and how many entries it has, and the place behind these."""
    mark, at = take_byte(row, 0)
    if mark != HEAP_MARK:
        raise BadBytes("mark")
    columns, at = take_count(row, at, MOST_COLUMNS)
    kinds = []
    for column in range(columns):
        kind, at = take_byte(row, at)
        if kind >= len(KINDS):
            raise BadBytes("kind")
        kinds.append(KINDS[kind])
    long, at = take_byte(row, at)
    if not 1 <= long <= MOST_CELLS:
        raise BadBytes("count")
    many, at = take_count(row, at)
    return kinds, long, many, at


def take_column(row, at, stretches):
    """The cells of so many stretches that begin at a place, and the place behind them."""
    cells = []
    for s in range(stretches):
        many, at = take_count(row, at)
        if at + many > len(row):
            raise BadBytes("short")
        cells.extend(unpressed(row[at:at + many]))
        at += many
    return cells, at


def can_be_entries(kinds, many, columns):
    """Whether the cells of a heap's columns make so many entries."""
    if any([len(cells) != many for cells in columns]):
        return False
    column_kinds = ["number", "number"] + kinds
    if not all([are_of(cells, kind) for cells, kind in zip(columns, column_kinds)]):
        return False
    numbers = columns[NUMBER_PLACE]
    borns = columns[BORN_PLACE]
    if None in numbers or None in borns:
        return False
    rising = [ahead < after for ahead, after in zip([-1] + numbers, numbers)]
    return all(rising) and min(borns) >= 1


def are_of(cells, kind):
    """Whether all cells are open or of a kind."""
    return all([kind_of(cell) in (None, kind) for cell in cells])
