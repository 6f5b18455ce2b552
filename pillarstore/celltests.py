"""Tests of cells, and what a stretch's note tells of a test."""

OPPOSITE = {"=": "<>", "<>": "=", "<": ">=", ">=": "<", ">": "<=", "<=": ">"}


def meets(cell, test):
    """Whether a cell meets a cell test."""
    word = test[0]
    if word == "open":
        return cell is None
    if cell is None:
        return False
    if word == "among":
        return cell in test[1]
    return stands_so(cell, word, test[1])


def stands_so(cell, sign, value):
    """Whether a cell and a value of one kind, neither open, are as the sign says."""
    if sign == "=":
        return cell == value
    if sign == "<>":
        return cell != value
    if sign == "<":
        return cell < value
    if sign == "<=":
        return cell <= value
    if sign == ">":
        return cell > value
    return cell >= value


def note_of(cells):
    """How many cells, how many open ones, and the least and greatest of the others."""
    known = [cell for cell in cells if cell is not None]
    return len(cells), len(cells) - len(known), min(known, default=None), max(known, default=None)


def looked(note, test):
    """Whether by its note "none", "all" or "some" of a stretch's cells meet a test."""
    many, unknown, least, greatest = note
    if test[0] == "open":
        return looked_for_open(many, unknown)
    if unknown == many or none_between(least, greatest, test):
        return "none"
    if unknown == 0 and all_between(least, greatest, test):
        return "all"
    return "some"


def looked_for_open(many, unknown):
    """What the counts of a note tell of ("open",)."""
    if unknown == 0:
        return "none"
    return "all" if unknown == many else "some"


def all_between(least, greatest, test):
    """Whether the least and the greatest tell that all cells between them meet a test."""
    word, worth = test
    if word == "among":
        return least == greatest and least in worth
    if word == "<>":
        return worth < least or worth > greatest
    return meets(least, test) and meets(greatest, test)


def none_between(least, greatest, test):
    """Whether the least and the greatest tell that no cell between them meets a test."""
    word, worth = test
    if word == "among":
        return not any([least <= value <= greatest for value in worth])
    return all_between(least, greatest, (OPPOSITE[word], worth))
