"""Books: a store's deeds as entries, rows of bytes one behind the other, and back.

A deed is ("make", name, kinds, long), ("put", name, how many rows, file's number), ("take", name, numbers),
("pour", name, first, last, file's number) or ("forget", name, moment); without a file its number is NO_FILE.
"""

from pillarstore.byterows import number_bytes, take_number, take_text, text_bytes
from pillarstore.errors import BadBytes
from pillarstore.heaps import KINDS, SUM_BYTES, sum_of

NO_FILE = -1

# A deed's first byte is its word's place here.
DEED_WORDS = ("make", "put", "take", "pour", "forget")


def entry_bytes(deed):
    """The entry of a deed: how many bytes its body has, the body, its sum."""
    body = deed_bytes(deed)
    return number_bytes(len(body)) + body + sum_of(body)


def deed_bytes(deed):
    """The body of a deed's entry."""
    word, name, *rest = deed
    row = [DEED_WORDS.index(word)] + text_bytes(name)
    if word == "make":
        kinds, long = rest
        return row + number_bytes(len(kinds)) + [KINDS.index(kind) for kind in kinds] + [long]
    numbers = [len(rest[0])] + rest[0] if word == "take" else rest
    for number in numbers:
        row.extend(number_bytes(number))
    return row


def deeds_in(book):
    """The deeds of a book as far as its entries are whole, and the place behind these."""
    deeds = []
    behind = 0
    found = take_body(book, 0)
    while found is not None:
        body, behind = found
        deeds.append(deed_in(body))
        found = take_body(book, behind)
    return deeds, behind


def take_body(book, at):
    """The body of the entry at a place and the place behind it, None where none stands there whole with its sum."""
    try:
        many, first = take_number(book, at)
    except BadBytes:
        return None
    last = first + many
    behind = last + SUM_BYTES
    if many < 1 or behind > len(book) or book[last:behind] != sum_of(book[first:last]):
        return None
    return book[first:last], behind


def deed_in(body):
    """The deed of an entry's body."""
    word = DEED_WORDS[body[0]]
    name, at = take_text(body, 1)
    if word == "make":
        many, at = take_number(body, at)
        return word, name, [KINDS[byte] for byte in body[at:at + many]], body[at + many]
    numbers = numbers_from(body, at)
    return (word, name, numbers[1:]) if word == "take" else (word, name, *numbers)


def numbers_from(body, at):
    """All numbers from a place to the body's end."""
    numbers = []
    while at < len(body):
        number, at = take_number(body, at)
        numbers.append(number)
    return numbers
