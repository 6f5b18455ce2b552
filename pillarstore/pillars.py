"""A column's cells, kept as pressed stretches with their notes."""

from pillarstore.cells import within_bounds
from pillarstore.celltests import note_of
from pillarstore.errors import NoRow
from pillarstore.pressing import pressed
from pillarstore.unpressing import cell_in, cells_in


class Pillar:
    """A column's cells by stretches of long cells, the last one maybe shorter."""

    def __init__(self, long, cells):
        # No stretch is of no cells: a long below 1, which callers need not stay away from, is as 1.
        self.span = max(1, long)
        self.total = len(cells)
        pieces = [list(cells[at:at + self.span]) for at in range(0, self.total, self.span)]
        self.pressed_rows = [pressed(piece) for piece in pieces]
        self.known_notes = [note_of(piece) for piece in pieces]
        self.plain_pieces = {s: piece for s, piece in enumerate(pieces) if not can_be_read_back(piece)}

    def many(self):
        """How many cells there are."""
        return self.total

    def rows(self):
        """The pressed stretches."""
        return [list(row) for row in self.pressed_rows]

    def notes(self):
        """The stretches' notes."""
        return list(self.known_notes)

    def stretch(self, s):
        """The cells of a stretch."""
        if not 0 <= s < len(self.pressed_rows):
            raise NoRow("no such stretch")
        if s in self.plain_pieces:
            return list(self.plain_pieces[s])
        return cells_in(self.pressed_rows[s])

    def cell(self, k):
        """The k-th cell."""
        if not 0 <= k < self.total:
            raise NoRow("no such cell")
        s, place = divmod(k, self.span)
        if s in self.plain_pieces:
            return self.plain_pieces[s][place]
        return cell_in(self.pressed_rows[s], place)


def can_be_read_back(cells):
    """Whether the readers of pressed rows take the row of these cells: they refuse what is beyond the bounds."""
    return all([within_bounds(cell) for cell in cells])
