"""Stretches of cells pressed to rows of bytes."""

from pillarstore.byterows import bits_for, cell_bytes, number_bytes, packed
from pillarstore.cells import kind_of, unlike_cells


def by_cells(cells):
    """Way 0: the cells, one behind the other."""
    row = []
    for cell in cells:
        row.extend(cell_bytes(cell))
    return row


def by_runs(cells):
    """Way 1: how many runs of like cells, then each one's cell and length."""
    firsts = []
    lengths = []
    for cell in cells:
        if firsts and firsts[-1] == cell:
            lengths[-1] += 1
        else:
            firsts.append(cell)
            lengths.append(1)
    row = number_bytes(len(firsts))
    for first, length in zip(firsts, lengths):
        row.extend(cell_bytes(first))
        row.extend(number_bytes(length))
    return row


def by_book(cells):
    """Way 2: the unlike cells, rising, then each cell's place among them."""
    book = unlike_cells(cells)
    places = {cell: place for place, cell in enumerate(book)}
    wide = bits_for(len(book) - 1)
    return number_bytes(len(book)) + by_cells(book) + packed([places[cell] for cell in cells], wide)


def by_least(numbers):
    """Way 3: the least, then how far each is above it."""
    least = min(numbers)
    return number_bytes(least) + wide_and_packed([number - least for number in numbers])


def by_steps(numbers):
    """Way 4: the first, then the steps from each to the next, by the least of these."""
    steps = [after - ahead for ahead, after in zip(numbers, numbers[1:])]
    least = min(steps, default=0)
    start = number_bytes(numbers[0]) + number_bytes(least)
    return start + wide_and_packed([step - least for step in steps])


def wide_and_packed(numbers):
    """How many bits the greatest needs, then all by so many."""
    wide = bits_for(max(numbers, default=0))
    return [wide] + packed(numbers, wide)


PRESSERS = (by_cells, by_runs, by_book, by_least, by_steps)
FIRST_WAY_OF_NUMBERS = 3


def press_by(way, cells):
    """The row of a stretch by a way, None where that way is for numbers and a cell is none, or where it is no way."""
    if not 0 <= way < len(PRESSERS) or way >= FIRST_WAY_OF_NUMBERS and not has_numbers_alone(cells):
        return None
    presser = PRESSERS[way]
    return [way] + number_bytes(len(cells)) + presser(cells)


def has_numbers_alone(cells):
    """Whether there are cells and all of them are numbers."""
    return len(cells) > 0 and all([kind_of(cell) == "number" for cell in cells])


def pressed(cells):
    """The shortest row of a stretch, of several the first way's."""
    best = press_by(0, cells)
    for way in range(1, len(PRESSERS)):
        row = press_by(way, cells)
        if row is not None and len(row) < len(best):
            best = row
    return best
