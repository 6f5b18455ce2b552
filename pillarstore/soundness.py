"""Whether tests and forms are as told: refused with NotSound where they are not."""

from pillarstore.cells import fits, is_cell, is_whole, kind_of
from pillarstore.errors import NotSound

COMPARING_SIGNS = ("=", "<>", "<", "<=", ">", ">=")
SUM_SIGNS = ("+", "-", "*")

# Each word with how long its tuple is.
CELL_TEST_WORDS = (("open", 1), ("=", 2), ("<>", 2), ("<", 2), ("<=", 2), (">", 2), (">=", 2), ("among", 2))
TEST_WORDS = (("always", 1), ("cell", 3), ("cells", 4), ("both", 3), ("either", 3), ("not", 2))
FORM_WORDS = (("cell", 2), ("value", 2), ("sum", 4), ("first", 3))


def require(holds):
    """Refuses what does not hold."""
    if not holds:
        raise NotSound("not as told")


def word_of(thing, words):
    """The word of a tuple, one of words and just so long."""
    require(isinstance(thing, tuple) and len(thing) > 0)
    require((thing[0], len(thing)) in words)
    return thing[0]


def things_in(thing, least):
    """The list of what stands in a list, or in a tuple in its place, so many at least."""
    require(isinstance(thing, (list, tuple)) and len(thing) >= least)
    return list(thing)


def kind_at(place, kinds):
    """The kind of the cells at a place."""
    require(is_whole(place) and 0 <= place < len(kinds))
    return kinds[place]


def require_test(test, kinds):
    """Refuses a test of rows of these kinds that is not sound."""
    word = word_of(test, TEST_WORDS)
    if word == "cell":
        require_cell_test(test[2], kind_at(test[1], kinds))
    elif word == "cells":
        require(test[2] in COMPARING_SIGNS and kind_at(test[1], kinds) == kind_at(test[3], kinds))
    else:
        for inner in test[1:]:
            require_test(inner, kinds)


def require_cell_test(test, kind):
    """Refuses a test of cells of this kind that is not sound."""
    word = word_of(test, CELL_TEST_WORDS)
    if word == "among":
        for value in things_in(test[1], 0):
            require_value(value, kind)
    elif word != "open":
        require_value(test[1], kind)


def require_value(value, kind):
    """Refuses what a cell of this kind is not compared with."""
    require(value is not None and fits(value, kind))


def form_kind(form, kinds):
    """The kind of the cells that a form of rows of these kinds tells."""
    word = word_of(form, FORM_WORDS)
    if word == "cell":
        return kind_at(form[1], kinds)
    if word == "value":
        require(is_cell(form[1]))
        return kind_of(form[1]) or "number"
    one = form_kind(form[-2], kinds)
    other = form_kind(form[-1], kinds)
    if word == "sum":
        require(form[1] in SUM_SIGNS and one == "number")
    require(one == other)
    return one
