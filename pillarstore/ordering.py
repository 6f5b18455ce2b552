"""The order of cells, and of rows by items (place, down)."""


def order_key(cell):
    """What cells of one kind are ordered by: open ones ahead of all."""
    return cell is not None, cell


def in_order(rows, items):
    """The list of the rows in order by items, those that are alike by all as they stood."""
    ordered = list(rows)
    # The last item first: each further turn keeps the order of what is alike by it.
    for place, down in reversed(list(items)):
        ordered = in_order_at(ordered, place, down)
    return ordered


def in_order_at(rows, place, down):
    """The list of the rows in order by one place."""
    if down:
        return sorted(rows, key=lambda row: order_key(row[place]), reverse=True)
    return sorted(rows, key=lambda row: order_key(row[place]))


def stands_ahead(row, other, items):
    """Whether a row stands ahead of another one by items, not alike."""
    for place, down in items:
        if row[place] != other[place]:
            return (order_key(row[place]) < order_key(other[place])) != down
    return False
