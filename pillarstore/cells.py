"""What the other files need of cells: their signs, their bounds, their kinds, their order."""

# Written out, as a sign's number is its place here: the sign between $ and & is left out.
SIGNS = (
    " !\"#$&'()*+,-./0123456789:;<=>?@"
    "ABCDEFGHIJKLMNOPQRSTUVWXYZ[\\]^_`"
    "abcdefghijklmnopqrstuvwxyz{|}~"
)
MOST_SIGNS = 20
NUMBER_BOUND = 10 ** 18


def kind_of(cell):
    """The kind, "number" or "text", None of an open cell."""
    if cell is None:
        return None
    return "text" if isinstance(cell, str) else "number"


def within_bounds(cell):
    """Whether a number has no more figures, or a text no more signs, than a cell may have."""
    kind = kind_of(cell)
    if kind == "number":
        return abs(cell) < NUMBER_BOUND
    return kind is None or len(cell) <= MOST_SIGNS


def is_whole(thing):
    """Whether a thing of any kind is a whole number; True and False are none."""
    return isinstance(thing, int) and not isinstance(thing, bool)


def is_cell(thing):
    """Whether a thing of any kind is a cell."""
    if isinstance(thing, str):
        return within_bounds(thing) and all([sign in SIGNS for sign in thing])
    return thing is None or is_whole(thing) and within_bounds(thing)


def fits(thing, kind):
    """Whether a thing of any kind is a cell of a column of a kind."""
    return is_cell(thing) and kind_of(thing) in (None, kind)


def unlike_cells(cells):
    """The cells, each once, rising; they are open or of one kind."""
    known = sorted({cell for cell in cells if cell is not None})
    return [None] + known if None in cells else known
