"""Askings: a table's rows of a moment told one by one, reading no stretch ahead of need."""

from pillarstore.heaps import FIRST_COLUMN
from pillarstore.sieves import found_in


class Asking:
    """The cells at places of the rows that are there at a moment and meet a test, by numbers."""

    def __init__(self, table, moment, test, places):
        self.pillar_rows_test = table.pillar_test(moment, test)
        self.pillar_places = [place + FIRST_COLUMN for place in places]
        self.heap_walks = table.walks()
        self.way = [(walk, s) for walk in self.heap_walks for s in range(walk.stretches())]
        self.way_gone = 0
        self.ready = []
        self.ready_told = 0

    def next(self):
        """The next row, None behind the last."""
        while self.ready_told == len(self.ready):
            if self.way_gone == len(self.way):
                return None
            walk, s = self.way[self.way_gone]
            self.way_gone += 1
            self.ready = found_in(walk, s, self.pillar_rows_test, self.pillar_places)
            self.ready_told = 0
        self.ready_told += 1
        return self.ready[self.ready_told - 1]

    def reads(self):
        """The triples (heap, place, stretch) as they were read so far."""
        return [(heap, place, s) for heap, walk in enumerate(self.heap_walks) for place, s in walk.pairs()]
