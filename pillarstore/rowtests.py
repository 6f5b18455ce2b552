"""Tests of rows."""

from pillarstore.celltests import meets


def row_meets(row, test):
    """Whether a row meets a test of rows."""
    word = test[0]
    if word == "always":
        return True
    if word == "cell":
        return meets(row[test[1]], test[2])
    if word == "cells":
        return cells_stand_so(row[test[1]], test[2], row[test[3]])
    if word == "both":
        return row_meets(row, test[1]) and row_meets(row, test[2])
    if word == "either":
        return row_meets(row, test[1]) or row_meets(row, test[2])
    return not row_meets(row, test[1])


def cells_stand_so(cell, sign, other):
    """Whether neither cell is open and they are as the sign says."""
    return other is not None and meets(cell, (sign, other))


def places_in(test):
    """The places that a test names, rising, each once."""
    return sorted(set(named_places(test)))


def named_places(test):
    """The places as the test names them."""
    word = test[0]
    if word == "cell":
        return [test[1]]
    if word == "cells":
        return [test[1], test[3]]
    places = []
    for inner in test[1:]:
        places.extend(named_places(inner))
    return places


def moved(test, by):
    """The test with its places so much greater; nothing in it is a list that was handed in."""
    word = test[0]
    if word == "cell":
        return word, test[1] + by, own_cell_test(test[2])
    if word == "cells":
        return word, test[1] + by, test[2], test[3] + by
    inner = [moved(part, by) for part in test[1:]]
    return (word, *inner)


def own_cell_test(test):
    """A cell test with values of its own."""
    if test[0] == "among":
        return "among", tuple(test[1])
    return test
