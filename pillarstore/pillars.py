"""A column's cells, kept as pressed stretches with their notes."""

from pillarstore.celltests import note_of
from pillarstore.errors import NoRow
from pillarstore.pressing import pressed
from pillarstore.unpressing import cell_in, cells_in


class Pillar:
    """A column's cells by stretches of long cells, the last one maybe shorter."""

    def __init__(self, long, cells):
        pieces = [cells[at:at + long] for at in range(0, len(cells), long)]
        self.span = long
        self.total = len(cells)
        self.pressed_rows = [pressed(piece) for piece in pieces]
        self.known_notes = [note_of(piece) for piece in pieces]

    def many(self):
        """How many cells there are."""
        return self.total

    def rows(self):
        """The pressed stretches."""
        return [list(row) for row in self.pressed_rows]

    def notes(self):
        """The stretches' notes."""
        return list(self.known_notes)

    def stretch(self, s):
        """The cells of a stretch."""
        if not 0 <= s < len(self.pressed_rows):
            raise NoRow(f"no stretch {s}")
        return cells_in(self.pressed_rows[s])

    def cell(self, k):
        """The k-th cell."""
        if not 0 <= k < self.total:
            raise NoRow(f"no cell {k}")
        s, place = divmod(k, self.span)
        return cell_in(self.pressed_rows[s], place)
