"""Steps of questions: each tells its rows one by one, and asks the step within for no more than it has to have."""

from pillarstore.plainly import form_cell
from pillarstore.rowtests import moved, row_meets


class Where:
    """The rows that meet a test."""

    def __init__(self, inner, test):
        self.inner = inner
        self.row_test = moved(test, 0)

    def next(self):
        """The next row, None behind the last."""
        row = self.inner.next()
        while row is not None and not row_meets(row, self.row_test):
            row = self.inner.next()
        return row


class Told:
    """The rows of the cells that forms tell."""

    def __init__(self, inner, forms):
        self.inner = inner
        self.row_forms = list(forms)

    def next(self):
        """The next row, None behind the last."""
        row = self.inner.next()
        if row is None:
            return None
        return tuple([form_cell(row, form) for form in self.row_forms])


class Gathered:
    """The rows that a gatherer (a Grouper, Orderer or Windower) tells when it was fed all rows."""

    def __init__(self, inner, gatherer):
        self.inner = inner
        self.gatherer = gatherer
        self.is_fed = False

    def next(self):
        """The next row, None behind the last."""
        if not self.is_fed:
            self.is_fed = True
            self.feed_all()
        return self.gatherer.next()

    def feed_all(self):
        """Feeds the gatherer all rows."""
        row = self.inner.next()
        while row is not None:
            self.gatherer.feed(row)
            row = self.inner.next()


class FirstOnes:
    """The first rows, so many, of what a gatherer tells when it was fed all rows; of none, nothing is taken."""

    def __init__(self, inner, gatherer, many):
        self.gathered = Gathered(inner, gatherer)
        self.gatherer = gatherer
        self.rows_left = many

    def next(self):
        """The next row, None behind the last."""
        if self.rows_left > 0:
            self.rows_left -= 1
            return self.gathered.next()
        # What was not asked for goes, too, with its parts.
        while self.gatherer.next() is not None:
            pass
        return None


class Joined:
    """The rows that a Joiner tells when it was fed all rows of other, then of one."""

    def __init__(self, one, other, joiner):
        self.one = one
        self.other = other
        self.joiner = joiner
        self.is_fed = False

    def next(self):
        """The next row, None behind the last."""
        if not self.is_fed:
            self.is_fed = True
            self.feed_all()
        return self.joiner.next()

    def feed_all(self):
        """Feeds the Joiner all rows."""
        row = self.other.next()
        while row is not None:
            self.joiner.feed_other(row)
            row = self.other.next()
        row = self.one.next()
        while row is not None:
            self.joiner.feed_one(row)
            row = self.one.next()
