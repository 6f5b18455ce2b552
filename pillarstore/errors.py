"""The refusals: each one's class stands straight under StoreError."""


class StoreError(ValueError):
    """What stands above every refusal."""


class NoRow(StoreError):
    """There is no row, cell or stretch at that place."""


class NoHeap(StoreError):
    """There are no heaps at these places."""


class NoMoment(StoreError):
    """The moment is below the oldest one or above now."""


class NotSound(StoreError):
    """A question is not as the document tells."""


class NoRoom(StoreError):
    """More rows would be held than the room has, or more freed than are held."""


class NoPart(StoreError):
    """There is no such part."""


class NoFile(StoreError):
    """There is no such file."""


class NoName(StoreError):
    """There is no table of that name."""


class Taken(StoreError):
    """There is a table of that name already."""


class BadBytes(StoreError):
    """A row of bytes is refused; why is a word of the document's."""

    def __init__(self, why):
        super().__init__(f"bytes refused: {why}")
        self.why = why


class BadRow(StoreError):
    """A row does not fit the columns; place is where it stands among the rows."""

    def __init__(self, place):
        super().__init__(f"row refused: {place}")
        self.place = place


class BadText(StoreError):
    """A desk's text is refused; line is the first row that is."""

    def __init__(self, line):
        super().__init__(f"line refused: {line}")
        self.line = line
