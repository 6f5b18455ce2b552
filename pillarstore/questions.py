"""The kinds of what questions tell: refused with NotSound where a question is not as told."""

from pillarstore.cells import is_whole
from pillarstore.soundness import form_kind, kind_at, require, require_test, things_in, word_of

# Each word with how long its tuple is.
QUESTION_WORDS = (
    ("table", 2), ("where", 3), ("told", 3), ("joined", 4), ("kept", 4),
    ("grouped", 4), ("ordered", 4), ("windowed", 5),
)
COUNT_WORDS = (("rows", 1), ("known", 2), ("sum", 2), ("least", 2), ("most", 2))
WINDOW_WORDS = (("number", 1), ("rank", 1), ("ahead", 3), ("sum", 3))


def kinds_of(question, kinds):
    """The list of the kinds of the cells that a question tells."""
    word = word_of(question, QUESTION_WORDS)
    if word == "table":
        return table_kinds(question[1], kinds)
    inner = kinds_of(question[1], kinds)
    if word == "where":
        require_test(question[2], inner)
        return inner
    if word == "told":
        return [form_kind(form, inner) for form in things_in(question[2], 1)]
    if word == "grouped":
        return grouped_kinds(inner, question[2], question[3])
    if word == "ordered":
        require_items(question[2], inner)
        require_many(question[3], True)
        return inner
    if word == "windowed":
        return windowed_kinds(inner, question[2], question[3], question[4])
    return joined_kinds(inner, kinds_of(question[2], kinds), question[3])


def table_kinds(name, kinds):
    """The kinds of a table by its name."""
    require(isinstance(name, str) and name in kinds)
    return list(kinds[name])


def joined_kinds(one, other, pairs):
    """The kinds of joined rows, whose cells at the pairs' places are of one kind."""
    for pair in things_in(pairs, 1):
        place, other_place = two_in(pair)
        require(kind_at(place, one) == kind_at(other_place, other))
    return one + other


def grouped_kinds(inner, places, counts):
    """The kinds of the cells at places, then the counts'."""
    told = [kind_at(place, inner) for place in things_in(places, 0)]
    told.extend([count_kind(count, inner) for count in things_in(counts, 0)])
    require(len(told) > 0)
    return told


def count_kind(count, inner):
    """The kind of a count of rows of these kinds."""
    word = word_of(count, COUNT_WORDS)
    if word == "rows":
        return "number"
    kind = kind_at(count[1], inner)
    require(word != "sum" or kind == "number")
    return "number" if word == "known" else kind


def windowed_kinds(inner, places, items, windows):
    """The kinds of the rows, then the windows'."""
    for place in things_in(places, 0):
        kind_at(place, inner)
    require_items(items, inner)
    return inner + [window_kind(window, inner) for window in things_in(windows, 1)]


def window_kind(window, inner):
    """The kind of a window over rows of these kinds."""
    word = word_of(window, WINDOW_WORDS)
    if word in ("number", "rank"):
        return "number"
    kind = kind_at(window[1], inner)
    require(word != "sum" or kind == "number")
    require_many(window[2], word == "sum")
    return kind


def require_items(items, inner):
    """Refuses items of an order that are not pairs of a place and True or False."""
    for item in things_in(items, 0):
        place, down = two_in(item)
        kind_at(place, inner)
        require(isinstance(down, bool))


def require_many(many, none_too):
    """Refuses what is no number from 0 on, nor None where that is told."""
    require(none_too and many is None or is_whole(many) and many >= 0)


def two_in(pair):
    """The list of the two things of a pair."""
    things = things_in(pair, 2)
    require(len(things) == 2)
    return things
