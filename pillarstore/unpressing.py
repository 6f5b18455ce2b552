"""Rows of pressed stretches read back.

A reader tells a row as values and places: the cells that stand in the row, and for each
cell of the stretch which of these it is. So what is asked of a value is asked just once.
"""

from pillarstore.byterows import bits_for, take_byte, take_cell, take_number, take_packed
from pillarstore.cells import kind_of, within_bounds
from pillarstore.celltests import meets
from pillarstore.errors import BadBytes, NoRow
from pillarstore.pressing import press_by

MOST_CELLS = 64
MOST_WIDE = 62


def take_count(row, at, most=None):
    """A number from 1 on, to most where that is told, that begins at a place, and the place behind it."""
    many, behind = take_number(row, at)
    if many < 1 or most is not None and many > most:
        raise BadBytes("count")
    return many, behind


def take_cells(row, at, many):
    """So many cells that begin at a place, and the place behind them."""
    cells = []
    for place in range(many):
        cell, at = take_cell(row, at)
        cells.append(cell)
    return cells, at


def take_wide_and_packed(row, at, many):
    """So many packed numbers with their wide ahead, and the place behind them."""
    wide, at = take_byte(row, at)
    if wide > MOST_WIDE:
        raise BadBytes("wide")
    return take_packed(row, at, many, wide)


def read_cells(row, at, many):
    """Way 0."""
    cells, behind = take_cells(row, at, many)
    return cells, list(range(many)), behind


def read_runs(row, at, many):
    """Way 1: the values are the runs' cells."""
    runs, at = take_count(row, at, many)
    values = []
    places = []
    for run in range(runs):
        cell, at = take_cell(row, at)
        length, at = take_count(row, at, many)
        values.append(cell)
        places.extend([run] * length)
    return values, places, at


def read_book(row, at, many):
    """Way 2: the values are the book."""
    unlike, at = take_count(row, at, many)
    book, at = take_cells(row, at, unlike)
    places, behind = take_packed(row, at, many, bits_for(unlike - 1))
    return book, places, behind


def read_least(row, at, many):
    """Way 3."""
    least, at = take_number(row, at)
    above, behind = take_wide_and_packed(row, at, many)
    return [least + number for number in above], list(range(many)), behind


def read_steps(row, at, many):
    """Way 4."""
    cell, at = take_number(row, at)
    least, at = take_number(row, at)
    above, behind = take_wide_and_packed(row, at, many - 1)
    cells = [cell]
    for number in above:
        cell += least + number
        cells.append(cell)
    return cells, list(range(many)), behind


READERS = (read_cells, read_runs, read_book, read_least, read_steps)


def unpressed(row):
    """The list of the cells of a pressed stretch, refused where it is none."""
    way, at = take_byte(row, 0)
    if way >= len(READERS):
        raise BadBytes("way")
    many, at = take_count(row, at, MOST_CELLS)
    reader = READERS[way]
    values, places, behind = reader(row, at, many)
    if behind < len(row):
        raise BadBytes("behind")
    # Cells can be put together, and then pressed again, only if they make a stretch.
    if len(places) != many or max(places) >= len(values) or not can_be_one_stretch(values):
        raise BadBytes("form")
    cells = [values[place] for place in places]
    if press_by(way, cells) != list(row):
        raise BadBytes("form")
    return cells


def can_be_one_stretch(values):
    """Whether no two are of unlike kinds and no number has too many figures."""
    kinds = {kind_of(value) for value in values if value is not None}
    return len(kinds) <= 1 and all([within_bounds(value) for value in values])


def values_and_places(row):
    """What the row's reader tells of a row that unpressed takes, without asking that again."""
    many, at = take_number(row, 1)
    reader = READERS[row[0]]
    values, places, behind = reader(row, at, many)
    return values, places


def cells_in(row):
    """As unpressed, of a row that it takes."""
    values, places = values_and_places(row)
    return [values[place] for place in places]


def count_in(row):
    """How many cells a row has."""
    many, behind = take_number(row, 1)
    return many


def cell_in(row, k):
    """The k-th cell of a row."""
    if not 0 <= k < count_in(row):
        raise NoRow("no such cell")
    values, places = values_and_places(row)
    return values[places[k]]


def kept_in(row, test):
    """A 1 for each cell that meets a cell test, else 0, and how many cells are asked."""
    values, places = values_and_places(row)
    answers = [1 if meets(value, test) else 0 for value in values]
    return [answers[place] for place in places], len(values)
