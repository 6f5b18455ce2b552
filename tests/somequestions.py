"""Sound questions made by chance: each word, within one another, over tables of any kinds."""

from pillarstore.questions import kinds_of

NUMBERS = (-1, 0, 1, 2, 3, 4, 5)
TEXTS = ("", "a", "b", "c")
SIGNS = ("=", "<>", "<", "<=", ">", ">=")
MOST_WIDE = 9


def some_value(chance, kind):
    return chance.choice(NUMBERS if kind == "number" else TEXTS)


def some_places(chance, kinds, least, most):
    return [chance.randrange(len(kinds)) for _turn in range(chance.randint(least, most))]


def places_of_kind(kinds, kind):
    return [place for place, found in enumerate(kinds) if found == kind]


def some_test(chance, kinds, deep):
    word = chance.choice(("always", "cell", "cell", "cell", "cells") + ("both", "either", "not") * (deep > 0))
    if word == "always":
        return (word,)
    if word == "cell":
        place = chance.randrange(len(kinds))
        return word, place, some_cell_test(chance, kinds[place])
    if word == "cells":
        place = chance.randrange(len(kinds))
        return word, place, chance.choice(SIGNS), chance.choice(places_of_kind(kinds, kinds[place]))
    inner = [some_test(chance, kinds, deep - 1) for _turn in range(1 if word == "not" else 2)]
    return (word, *inner)


def some_cell_test(chance, kind):
    word = chance.choice(SIGNS + ("open", "among"))
    if word == "open":
        return (word,)
    if word == "among":
        return word, [some_value(chance, kind) for _turn in range(chance.randrange(4))]
    return word, some_value(chance, kind)


def some_form(chance, kinds, kind, deep):
    word = chance.choice(("cell", "cell", "value") + ("sum", "first") * (deep > 0))
    if word == "cell" and kind in kinds:
        return word, chance.choice(places_of_kind(kinds, kind))
    if word in ("cell", "value") or kind == "text" and word == "sum":
        return "value", None if kind == "number" and chance.random() < 0.2 else some_value(chance, kind)
    inner = [some_form(chance, kinds, kind, deep - 1) for _turn in range(2)]
    return (word, chance.choice("+-*"), *inner) if word == "sum" else (word, *inner)


def some_items(chance, kinds):
    return [(place, chance.random() < 0.5) for place in some_places(chance, kinds, 0, 3)]


def some_count(chance, kinds):
    word = chance.choice(("rows", "known", "sum", "least", "most"))
    places = places_of_kind(kinds, "number") if word == "sum" else list(range(len(kinds)))
    return ("rows",) if word == "rows" or not places else (word, chance.choice(places))


def some_window(chance, kinds, most):
    word = chance.choice(("number", "rank", "ahead", "sum"))
    places = places_of_kind(kinds, "number") if word == "sum" else list(range(len(kinds)))
    if word in ("number", "rank") or not places:
        return (chance.choice(("number", "rank")),)
    far = chance.randrange(most // 3)
    return word, chance.choice(places), None if word == "sum" and chance.random() < 0.3 else far


def some_pairs(chance, one, other):
    """Pairs of places of one kind, none where there is no such pair."""
    alike = [(place, mate) for place in range(len(one)) for mate in range(len(other)) if one[place] == other[mate]]
    return chance.choices(alike, k=chance.randint(1, 2)) if alike else []


def some_question(chance, kinds_by_name, deep, most, straight=False):
    """A question at most so many deep, for a room of so many; straight: other of a join is a table."""
    if deep <= 1:
        return "table", chance.choice(sorted(kinds_by_name))
    inner = some_question(chance, kinds_by_name, deep - 1, most, straight)
    kinds = kinds_of(inner, kinds_by_name)
    word = chance.choice(("where", "told", "joined", "kept", "grouped", "ordered", "windowed"))
    if len(kinds) > MOST_WIDE:
        word = "told"
    if word in ("joined", "kept"):
        other = some_question(chance, kinds_by_name, 1 if straight else min(2, deep - 1), most, straight)
        pairs = some_pairs(chance, kinds, kinds_of(other, kinds_by_name))
        return (word, inner, other, pairs) if pairs else inner
    return some_step(chance, word, inner, kinds, most)


def some_step(chance, word, inner, kinds, most):
    if word == "where":
        return word, inner, some_test(chance, kinds, 2)
    if word == "told":
        wanted = [chance.choice(("number", "number", "text")) for _turn in range(chance.randint(1, 4))]
        return word, inner, [some_form(chance, kinds, kind, 2) for kind in wanted]
    if word == "grouped":
        places = some_places(chance, kinds, 0, 2)
        return word, inner, places, [some_count(chance, kinds) for _turn in range(chance.randint(not places, 3))]
    if word == "ordered":
        return word, inner, some_items(chance, kinds), chance.choice((None, None, 0, 1, 3, 8, 1000))
    windows = [some_window(chance, kinds, most) for _turn in range(chance.randint(1, 3))]
    return word, inner, some_places(chance, kinds, 0, 2), some_items(chance, kinds), windows
