"""Tests, forms and questions as a desk's rows have them, taken word by word."""

from pillarstore.deskwords import Words, number_of_word, parted_by
from pillarstore.soundness import COMPARING_SIGNS, SUM_SIGNS, require

STEP_MARK = "|"
LIST_MARK = ":"
TESTS_OF_TWO = {"and": "both", "or": "either"}


def take_test(words):
    """Takes a test."""
    word = words.word()
    if word == "all":
        return ("always",)
    if word == "not":
        return "not", take_test(words)
    if word in TESTS_OF_TWO:
        one = take_test(words)
        return TESTS_OF_TWO[word], one, take_test(words)
    return take_test_of(number_of_word(word), words)


def take_test_of(place, words):
    """Takes what stands behind the place in a test of cells."""
    word = words.word()
    if word == "open":
        return "cell", place, ("open",)
    if word == "in":
        many = words.number()
        return "cell", place, ("among", [words.cell() for turn in range(many)])
    require(word in COMPARING_SIGNS)
    if words.passes("@"):
        return "cells", place, word, words.number()
    return "cell", place, (word, words.cell())


def take_form(words):
    """Takes a form."""
    word = words.word()
    if word == "=":
        return "value", words.cell()
    if word in SUM_SIGNS:
        one = take_form(words)
        return "sum", word, one, take_form(words)
    if word == "first":
        one = take_form(words)
        return "first", one, take_form(words)
    return "cell", number_of_word(word)


def take_count(words):
    """Takes a count of groups."""
    word = words.word()
    if word == "rows":
        return ("rows",)
    require(word in ("known", "sum", "least", "most"))
    return word, words.number()


def take_item(words):
    """Takes an item of an order."""
    word = words.word()
    require(word in ("up", "down"))
    return words.number(), word == "down"


def take_window(words):
    """Takes a window."""
    word = words.word()
    if word in ("number", "rank"):
        return (word,)
    require(word in ("ahead", "sum"))
    place = words.number()
    if words.passes("all"):
        return word, place, None
    return word, place, words.number()


def take_pairs(words):
    """Takes pairs of places, all that are left."""
    pairs = []
    while words.more():
        place = words.number()
        pairs.append((place, words.number()))
    return pairs


def take_places_and_mark(words):
    """Takes places, and the mark behind them."""
    places = []
    while not words.passes(LIST_MARK):
        places.append(words.number())
    return places


def where_over(inner, words):
    """Takes what stands behind a where."""
    return "where", inner, take_test(words)


def told_over(inner, words):
    """Takes what stands behind a tell."""
    forms = []
    while words.more():
        forms.append(take_form(words))
    return "told", inner, forms


def joined_over(inner, words):
    """Takes what stands behind a join."""
    other = ("table", words.name())
    return "joined", inner, other, take_pairs(words)


def kept_over(inner, words):
    """Takes what stands behind a keep."""
    other = ("table", words.name())
    return "kept", inner, other, take_pairs(words)


def grouped_over(inner, words):
    """Takes what stands behind a group."""
    places = take_places_and_mark(words)
    counts = []
    while words.more():
        counts.append(take_count(words))
    return "grouped", inner, places, counts


def ordered_over(inner, words):
    """Takes what stands behind an order."""
    items = []
    while words.more() and not words.stands_next("only"):
        items.append(take_item(words))
    many = words.number() if words.passes("only") else None
    return "ordered", inner, items, many


def windowed_over(inner, words):
    """Takes what stands behind a window."""
    places = take_places_and_mark(words)
    items = []
    while not words.passes(LIST_MARK):
        items.append(take_item(words))
    windows = []
    while words.more():
        windows.append(take_window(words))
    return "windowed", inner, places, items, windows


STEPS = {
    "where": where_over, "tell": told_over, "join": joined_over, "keep": kept_over,
    "group": grouped_over, "order": ordered_over, "window": windowed_over,
}


def take_question(words):
    """Takes a question, all words that are left."""
    first, *steps = [Words(part) for part in parted_by(words.rest(), STEP_MARK)]
    require(first.word() == "from")
    question = ("table", first.name())
    first.end()
    for step in steps:
        word = step.word()
        require(word in STEPS)
        step_over = STEPS[word]
        question = step_over(question, step)
        step.end()
    return question
