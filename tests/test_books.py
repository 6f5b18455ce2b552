"""[62]: a store's deeds as the entries of its book."""

import unittest

from pillarstore.books import NO_FILE, deeds_in, entry_bytes
from pillarstore.byterows import number_bytes, text_bytes
from pillarstore.heaps import sum_of

NAME = text_bytes("abc")
BODIES = [
    (("make", "abc", ["number", "text"], 64), [0] + NAME + [4, 0, 1, 64]),
    (("make", "z", ["text"] * 8, 1), [0, 2, 89] + [16] + [1] * 8 + [1]),
    (("put", "abc", 0, NO_FILE), [1] + NAME + [0, 1]),
    (("put", "abc", 500, 70), [1] + NAME + number_bytes(500) + number_bytes(70)),
    (("take", "abc", []), [2] + NAME + [0]),
    (("take", "abc", [0, 3, 1000]), [2] + NAME + [6, 0, 6] + number_bytes(1000)),
    (("pour", "abc", 0, 2, 5), [3] + NAME + [0, 4, 10]),
    (("pour", "abc", 1, 1, NO_FILE), [3] + NAME + [2, 2, 1]),
    (("forget", "abc", 0), [4] + NAME + [0]),
    (("forget", "abcdefgh", 100), [4] + text_bytes("abcdefgh") + [200, 1]),
]
LONG = ("take", "abc", list(range(40, 140)))


class EntryTest(unittest.TestCase):
    def test_each_deed(self):
        for deed, body in BODIES:
            self.assertEqual(entry_bytes(deed), number_bytes(len(body)) + body + sum_of(body), deed)

    def test_by_hand(self):
        # "a" is [2, 64]; 4, 2, 64, 0: 1 * 5 + 2 * 3 + 3 * 65 + 4 * 1 = 210.
        self.assertEqual(entry_bytes(("forget", "a", 0)), [8, 4, 2, 64, 0, 210, 0, 0, 0])

    def test_a_long_entry(self):
        body = [2] + NAME + number_bytes(100) + [byte for number in LONG[2] for byte in number_bytes(number)]
        self.assertGreater(len(body), 128)
        self.assertEqual(entry_bytes(LONG), number_bytes(len(body)) + body + sum_of(body))

    def test_kinds_as_a_tuple(self):
        self.assertEqual(entry_bytes(("make", "a", ("text",), 5)), entry_bytes(("make", "a", ["text"], 5)))


class DeedsTest(unittest.TestCase):
    def setUp(self):
        self.deeds = [deed for deed, _body in BODIES] + [LONG, BODIES[0][0]]
        self.entries = [entry_bytes(deed) for deed in self.deeds]
        self.book = [byte for entry in self.entries for byte in entry]

    def test_no_entries(self):
        self.assertEqual(deeds_in([]), ([], 0))

    def test_whole_entries(self):
        self.assertEqual(deeds_in(self.book), (self.deeds, len(self.book)))

    def test_cut_anywhere(self):
        ends = [sum(map(len, self.entries[:many])) for many in range(len(self.entries) + 1)]
        for at in range(len(self.book) + 1):
            whole = [end for end in ends if end <= at]
            self.assertEqual(deeds_in(self.book[:at]), (self.deeds[:len(whole) - 1], whole[-1]), at)

    def test_a_wrong_byte_in_a_body_or_its_sum(self):
        start = len(self.entries[0])
        for at in range(start + 1, start + len(self.entries[1])):
            book = list(self.book)
            book[at] = (book[at] + 1) % 256
            self.assertEqual(deeds_in(book), (self.deeds[:1], start), at)

    def test_what_is_no_entry(self):
        start = len(self.entries[0])
        for behind in ([1, 0, 0, 0, 0], [128] * 12, [255] * 9, [0, 0, 0, 0, 0], [128, 0]):
            self.assertEqual(deeds_in(self.entries[0] + behind), (self.deeds[:1], start))


if __name__ == "__main__":
    unittest.main()
