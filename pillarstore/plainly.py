"""The plain reading of questions: each step makes the list of all its rows."""

from pillarstore.ordering import in_order, stands_ahead
from pillarstore.questions import kinds_of
from pillarstore.rowtests import row_meets


def form_cell(row, form):
    """The cell that a form tells of a row."""
    word = form[0]
    if word == "cell":
        return row[form[1]]
    if word == "value":
        return form[1]
    if word == "sum":
        return sum_cell(form[1], form_cell(row, form[2]), form_cell(row, form[3]))
    first = form_cell(row, form[1])
    return form_cell(row, form[2]) if first is None else first


def sum_cell(sign, one, other):
    """The sum of two numbers by a sign, open where one is."""
    if one is None or other is None:
        return None
    if sign == "+":
        return one + other
    if sign == "-":
        return one - other
    return one * other


def rows_of(question, kinds, rows):
    """The list of the rows that a question tells of tables of these kinds and rows."""
    word = question[0]
    if word == "table":
        return [tuple(row) for row in rows[question[1]]]
    inner = rows_of(question[1], kinds, rows)
    if word == "where":
        return [row for row in inner if row_meets(row, question[2])]
    if word == "told":
        return [tuple([form_cell(row, form) for form in question[2]]) for row in inner]
    if word == "grouped":
        return grouped_rows(inner, question[2], question[3])
    if word == "ordered":
        return in_order(inner, question[2])[:question[3]]
    if word == "windowed":
        return windowed_rows(inner, question[2], question[3], question[4])
    other = rows_of(question[2], kinds, rows)
    # A row without a mate is left out, or stands once with open cells behind it.
    unmated = [] if word == "joined" else [(None,) * len(kinds_of(question[2], kinds))]
    return joined_rows(inner, other, question[3], unmated)


def cells_at(row, places):
    """The tuple of the cells of a row at places."""
    return tuple([row[place] for place in places])


def parted(rows, places):
    """The rows by their cells at places, each part as they stood."""
    parts = {}
    for row in rows:
        parts.setdefault(cells_at(row, places), []).append(row)
    return parts


def joined_rows(one, other, pairs, unmated):
    """Each row of one with each of its mates, with the rows of unmated where it has none."""
    mates = parted(other, [pair[1] for pair in pairs])
    rows = []
    for row in one:
        cells = cells_at(row, [pair[0] for pair in pairs])
        found = [] if None in cells else mates.get(cells, [])
        rows.extend([row + mate for mate in found or unmated])
    return rows


def grouped_rows(rows, places, counts):
    """A row for each group, rising by its cells at places."""
    # Without places the one group is there of no rows, too.
    groups = parted(rows, places) if places else {(): rows}
    rising = in_order(groups, [(place, False) for place in range(len(places))])
    return [cells + tuple([count_cell(groups[cells], count) for count in counts]) for cells in rising]


def count_cell(rows, count):
    """A count of a group's rows."""
    word = count[0]
    if word == "rows":
        return len(rows)
    known = known_at(rows, count[1])
    if word == "known":
        return len(known)
    if word == "sum":
        return sum_of_known(known)
    return min(known, default=None) if word == "least" else max(known, default=None)


def known_at(rows, place):
    """The cells at a place that are not open."""
    return [row[place] for row in rows if row[place] is not None]


def sum_of_known(known):
    """The sum of numbers, open where there are none."""
    return sum(known) if known else None


def windowed_rows(rows, places, items, windows):
    """The rows in their order, behind each the cells of its windows."""
    # Behind each row stands its place, to find it again when its part is ordered.
    placed = [(*row, at) for at, row in enumerate(rows)]
    told = {}
    for part in parted(placed, places).values():
        ordered = in_order(part, items)
        for k, row in enumerate(ordered):
            cells = tuple([window_cell(ordered, k, items, window) for window in windows])
            told[row[-1]] = row[:-1] + cells
    return [told[at] for at in range(len(rows))]


def window_cell(ordered, k, items, window):
    """A window's cell of the k-th row of an ordered part."""
    word = window[0]
    if word == "number":
        return k + 1
    if word == "rank":
        return 1 + ahead_of(ordered, k, items)
    place, back = window[1], window[2]
    if word == "ahead":
        return ordered[k - back][place] if back <= k else None
    first = 0 if back is None else max(0, k - back)
    return sum_of_known(known_at(ordered[first:k + 1], place))


def ahead_of(ordered, k, items):
    """How many rows of an ordered part are ahead of the k-th, not alike."""
    many = k
    while many > 0 and not stands_ahead(ordered[many - 1], ordered[k], items):
        many -= 1
    return many
