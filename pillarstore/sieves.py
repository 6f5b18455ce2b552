"""Sieves: pillars gone through stretch by stretch, reading no more than a test needs."""

from pillarstore.celltests import looked, meets
from pillarstore.rowtests import cells_stand_so


class Walk:
    """Goes through pillars stretch by stretch; in one stretch no place is read twice."""

    def __init__(self, pillars):
        self.columns = list(pillars)
        self.column_notes = [pillar.notes() for pillar in pillars]
        self.stretch_at = 0
        self.cells_read = {}
        self.pairs_read = []

    def stretches(self):
        """How many stretches each pillar has."""
        return max([len(notes) for notes in self.column_notes], default=0)

    def enter(self, s):
        """Goes to a stretch; nothing of it is read yet."""
        self.stretch_at = s
        self.cells_read = {}

    def note_at(self, place):
        """The note of a place in this stretch."""
        return self.column_notes[place][self.stretch_at]

    def size(self):
        """How many rows this stretch has."""
        return self.note_at(0)[0]

    def cells_at(self, place):
        """The cells of a place in this stretch."""
        if place not in self.cells_read:
            self.pairs_read.append((place, self.stretch_at))
            self.cells_read[place] = self.columns[place].stretch(self.stretch_at)
        return self.cells_read[place]

    def pairs(self):
        """The pairs (place, stretch) as they were read."""
        return list(self.pairs_read)


def mask_in(walk, test):
    """A 1 for each row of the walk's stretch that meets a test, else 0."""
    word = test[0]
    if word == "always":
        return [1] * walk.size()
    if word == "cell":
        return cell_mask(walk, test[1], test[2])
    if word == "cells":
        return cells_mask(walk, test[1], test[2], test[3])
    first = mask_in(walk, test[1])
    if word == "not":
        return [1 - bit for bit in first]
    # What has this bit has it by the first test alone.
    settled = 0 if word == "both" else 1
    if 1 - settled not in first:
        return first
    second = mask_in(walk, test[2])
    return [settled if bit == settled else other for bit, other in zip(first, second)]


def cell_mask(walk, place, test):
    """The mask of a cell test, by the note alone where that tells enough."""
    known = looked(walk.note_at(place), test)
    if known == "none":
        return [0] * walk.size()
    if known == "all":
        return [1] * walk.size()
    return [1 if meets(cell, test) else 0 for cell in walk.cells_at(place)]


def cells_mask(walk, place, sign, other_place):
    """The mask of cells that are compared, by the notes alone where all cells of one place are open."""
    if all_open(walk.note_at(place)) or all_open(walk.note_at(other_place)):
        return [0] * walk.size()
    cells = walk.cells_at(place)
    others = walk.cells_at(other_place)
    return [1 if cells_stand_so(cell, sign, other) else 0 for cell, other in zip(cells, others)]


def all_open(note):
    """Whether a note is of open cells alone."""
    many, unknown, least, greatest = note
    return many == unknown


def rows_in(walk, mask, places):
    """The rows of the cells at places, for each 1 of the mask of the walk's stretch."""
    if 1 not in mask:
        return []
    columns = [walk.cells_at(place) for place in places]
    return [tuple([cells[k] for cells in columns]) for k, bit in enumerate(mask) if bit == 1]


def found_in(walk, s, test, places):
    """The rows of the cells at places that meet a test in a stretch, which is read for both at once."""
    walk.enter(s)
    return rows_in(walk, mask_in(walk, test), places)


def sieved(pillars, test):
    """The mask of a test for all rows, and the pairs (place, stretch) as they were read."""
    walk = Walk(pillars)
    mask = []
    for s in range(walk.stretches()):
        walk.enter(s)
        mask.extend(mask_in(walk, test))
    return mask, walk.pairs()


def picked(pillars, mask, places):
    """The rows of the cells at places, for each 1 of the mask, and the pairs as they were read."""
    walk = Walk(pillars)
    rows = []
    at = 0
    for s in range(walk.stretches()):
        walk.enter(s)
        behind = at + walk.size()
        rows.extend(rows_in(walk, mask[at:behind], places))
        at = behind
    return rows, walk.pairs()
