"""Numbers, texts and cells as rows of bytes, and back."""

from pillarstore.cells import MOST_SIGNS, SIGNS, kind_of
from pillarstore.errors import BadBytes

MOST_NUMBER_BYTES = 9
OPEN_CELL = 0
NUMBER_CELL = 1
TEXT_CELL = 2


def number_bytes(number):
    """The row of a number of any size."""
    left = 2 * number if number >= 0 else -2 * number - 1
    row = []
    while left >= 128:
        row.append(128 + (left & 127))
        left >>= 7
    row.append(left)
    return row


def text_bytes(text):
    """The row of a text: how many signs, then each one's number."""
    return number_bytes(len(text)) + [SIGNS.index(sign) for sign in text]


def cell_bytes(cell):
    """The row of a cell: its kind, then what it holds."""
    kind = kind_of(cell)
    if kind == "number":
        return [NUMBER_CELL] + number_bytes(cell)
    if kind == "text":
        return [TEXT_CELL] + text_bytes(cell)
    return [OPEN_CELL]


def take_byte(row, at):
    """The byte at a place and the place behind it."""
    if at >= len(row):
        raise BadBytes("short")
    return row[at], at + 1


def take_number(row, at):
    """The number that begins at a place and the place behind it."""
    byte, behind = take_byte(row, at)
    folded = byte & 127
    while byte >= 128:
        if behind - at == MOST_NUMBER_BYTES:
            raise BadBytes("long")
        shift = 7 * (behind - at)
        byte, behind = take_byte(row, behind)
        folded += (byte & 127) << shift
    if byte == 0 and behind - at > 1:
        raise BadBytes("long")
    half = folded >> 1
    return (-half - 1 if folded & 1 else half), behind


def take_text(row, at):
    """The text that begins at a place and the place behind it."""
    many, behind = take_number(row, at)
    if not 0 <= many <= MOST_SIGNS:
        raise BadBytes("count")
    signs = []
    for place in range(many):
        byte, behind = take_byte(row, behind)
        if byte >= len(SIGNS):
            raise BadBytes("sign")
        signs.append(SIGNS[byte])
    return "".join(signs), behind


def take_cell(row, at):
    """The cell that begins at a place and the place behind it."""
    kind, behind = take_byte(row, at)
    if kind == OPEN_CELL:
        return None, behind
    if kind == NUMBER_CELL:
        return take_number(row, behind)
    if kind == TEXT_CELL:
        return take_text(row, behind)
    raise BadBytes("kind")


def bits_for(number):
    """How many bits a number from 0 on needs."""
    return number.bit_length()


def packed(numbers, wide):
    """The row of numbers that have wide bits each, one behind the other."""
    row = []
    held = 0
    bits = 0
    for number in numbers:
        held |= number << bits
        bits += wide
        while bits >= 8:
            row.append(held & 255)
            held >>= 8
            bits -= 8
    if bits > 0:
        row.append(held & 255)
    return row


def take_packed(row, at, many, wide):
    """The list of so many numbers of wide bits each and the place behind them."""
    behind = at + (many * wide + 7) // 8
    if behind > len(row):
        raise BadBytes("short")
    numbers = []
    held = 0
    bits = 0
    for place in range(many):
        while bits < wide:
            byte, at = take_byte(row, at)
            held |= byte << bits
            bits += 8
        numbers.append(held & ((1 << wide) - 1))
        held >>= wide
        bits -= wide
    # All whole numbers are shifted out: only bits that fill up the last byte are left.
    if held != 0:
        raise BadBytes("tail")
    return numbers, behind
