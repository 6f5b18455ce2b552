"""Cells, tests, forms and questions written as a desk's rows have them."""

import sys

DEED_KINDS = {"number": "n", "text": "t"}
TWO = {"both": "and", "either": "or"}


def cell_word(cell):
    if cell is None:
        return "-"
    if isinstance(cell, str):
        return "'" + cell
    bound = sys.get_int_max_str_digits()
    sys.set_int_max_str_digits(0)
    try:
        return str(cell)
    finally:
        sys.set_int_max_str_digits(bound)


def rows_text(rows):
    """A told text: a row of cells for each row."""
    return "\n".join(" ".join(map(cell_word, row)) for row in rows)


def numbers_words(numbers):
    return " ".join(map(str, numbers))


def test_words(test):
    word = test[0]
    if word == "always":
        return "all"
    if word == "cells":
        return f"{test[1]} {test[2]} @ {test[3]}"
    if word == "cell":
        sign, *worth = test[2]
        if sign == "open":
            return f"{test[1]} open"
        if sign == "among":
            return " ".join([f"{test[1]} in {len(worth[0])}", *map(cell_word, worth[0])])
        return f"{test[1]} {sign} {cell_word(worth[0])}"
    return " ".join([TWO.get(word, word), *map(test_words, test[1:])])


def form_words(form):
    word = form[0]
    if word == "cell":
        return str(form[1])
    if word == "value":
        return f"= {cell_word(form[1])}"
    head = form[1] if word == "sum" else "first"
    return " ".join([head, form_words(form[-2]), form_words(form[-1])])


def items_words(items):
    return [f"{'down' if down else 'up'} {place}" for place, down in items]


def window_words(window):
    return " ".join(["all" if worth is None else str(worth) for worth in window])


def step_words(question):
    """The last step of a question."""
    word = question[0]
    if word == "where":
        return "where " + test_words(question[2])
    if word == "told":
        return " ".join(["tell", *map(form_words, question[2])])
    if word in ("joined", "kept"):
        pairs = [numbers_words(pair) for pair in question[3]]
        return " ".join([{"joined": "join", "kept": "keep"}[word], question[2][1], *pairs])
    if word == "grouped":
        return " ".join(["group", *map(str, question[2]), ":", *map(numbers_words, question[3])])
    if word == "ordered":
        only = [] if question[3] is None else [f"only {question[3]}"]
        return " ".join(["order", *items_words(question[2]), *only])
    windows = map(window_words, question[4])
    return " ".join(["window", *map(str, question[2]), ":", *items_words(question[3]), ":", *windows])


def question_words(question):
    """A question whose joins are with tables."""
    if question[0] == "table":
        return f"from {question[1]}"
    return f"{question_words(question[1])} | {step_words(question)}"


def deed_words(word, name, *handed):
    """A deed of a store as a desk's row."""
    if word == "make":
        return f"table {name} {handed[1]} {''.join(DEED_KINDS[kind] for kind in handed[0])}"
    if word == "put":
        rows = " / ".join(" ".join(map(cell_word, row)) for row in handed[0])
        return f"put {name} {rows}" if rows else f"put {name}"
    if word == "take":
        return f"take {name} {test_words(handed[0])}"
    return f"{word} {name} {numbers_words(handed)}"
