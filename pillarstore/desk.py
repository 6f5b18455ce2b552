"""A desk: a store's deeds and questions as the rows of a text."""

from pillarstore.deskquestions import take_question, take_test
from pillarstore.deskwords import Words, cell_of_word, cell_word, parted_by
from pillarstore.disks import Disk
from pillarstore.errors import BadText, StoreError
from pillarstore.soundness import require, require_test
from pillarstore.stores import Store

KIND_SIGNS = {"n": "number", "t": "text"}
ROW_MARK = "/"
LEAST_ROOM = 6
MOST_ROOM = 1000


class Desk:
    """A store on its disk, the room for questions, and the moments for the next one."""

    def __init__(self):
        self.disk = Disk()
        self.store = Store(self.disk)
        self.room_most = LEAST_ROOM
        self.moments_to_ask = {}


def do_table(desk, words):
    """Makes a table."""
    name, long, signs = words.name(), words.number(), words.word()
    words.end()
    require(all([sign in KIND_SIGNS for sign in signs]))
    desk.store.make(name, [KIND_SIGNS[sign] for sign in signs], long)


def do_put(desk, words):
    """Puts rows in a table."""
    name = words.name()
    parts = parted_by(words.rest(), ROW_MARK) if words.more() else []
    desk.store.put(name, [[cell_of_word(word) for word in part] for part in parts])


def do_take(desk, words):
    """Takes rows out of a table."""
    name, test = words.name(), take_test(words)
    words.end()
    require_test(test, desk.store.table(name).kinds())
    desk.store.take(name, test)


def do_pour(desk, words):
    """Pours heaps of a table together."""
    name, first, last = words.name(), words.number(), words.number()
    words.end()
    desk.store.pour(name, first, last)


def do_forget(desk, words):
    """Forgets the moments of a table ahead of one."""
    name, moment = words.name(), words.number()
    words.end()
    desk.store.forget(name, moment)


def do_room(desk, words):
    """Says how many rows each step of a question may hold."""
    most = words.number()
    words.end()
    require(LEAST_ROOM <= most <= MOST_ROOM)
    desk.room_most = most


def do_at(desk, words):
    """Says as of which moment the next question asks a table."""
    name, moment = words.name(), words.number()
    words.end()
    desk.moments_to_ask[name] = moment


def do_fall(desk, words):
    """The disk falls, and a store is opened on what is left."""
    k = words.number()
    words.end()
    desk.disk = desk.disk.fallen(min(k, desk.disk.steps()))
    desk.store = Store(desk.disk)
    desk.moments_to_ask = {}


def told_now(desk, words):
    """A table's moment and oldest moment, and how many heaps and marks it has."""
    name = words.name()
    words.end()
    table = desk.store.table(name)
    return f"{table.now()} {table.oldest()} {table.heap_count()} {len(table.marks())}"


def told_steps(desk, words):
    """How many steps the disk did."""
    words.end()
    return str(desk.disk.steps())


def told_files(desk, words):
    """The names of the disk's files."""
    words.end()
    return " ".join(desk.disk.names())


def told_ask(desk, words):
    """The rows that a question tells."""
    question = take_question(words)
    moments = desk.moments_to_ask
    desk.moments_to_ask = {}
    rows = desk.store.ask(question, moments, desk.room_most)
    return "\n".join([" ".join([cell_word(cell) for cell in row]) for row in rows])


DEEDS = {
    "table": do_table, "put": do_put, "take": do_take, "pour": do_pour, "forget": do_forget, "room": do_room,
    "at": do_at, "fall": do_fall, "now": told_now, "steps": told_steps, "files": told_files, "ask": told_ask,
}


def done(desk, row):
    """Does a row; the text that it tells, None where it tells nothing."""
    words = row.split(" ")
    # Two blanks beside one another, a blank at an end and an empty row make an empty word.
    require("" not in words and words[0] in DEEDS)
    action = DEEDS[words[0]]
    return action(desk, Words(words[1:]))


def desk_told(text):
    """The texts that the rows of a desk's text tell, in order."""
    desk = Desk()
    told = []
    rows = text.split("\n") if text else []
    for line, row in enumerate(rows):
        try:
            answer = done(desk, row)
        except StoreError:
            raise BadText(line) from None
        if answer is not None:
            told.append(answer)
    return told
