"""What several test files need."""

import unittest

from pillarstore.errors import BadBytes

TOP = 10 ** 18 - 1
# More figures than Python tells: a refusal of such a number must not try to tell it.
HUGE = 10 ** 5000

# Per sign: whether what is below, at and beyond a value meets it.
MET = {
    "=": (False, True, False), "<>": (True, False, True), "<": (True, False, False),
    "<=": (True, True, False), ">": (False, False, True), ">=": (False, True, True),
}

# Stretches of every kind and length, with what each way is good and bad for.
STRETCHES = [
    [5], [0], [-1], [TOP], [-TOP], [None], ["a"], [""],
    [5, 5], [5, 6], [6, 5], [5, None], [None, 5], [None, None], ["a", "b"], ["b", "a"], ["", None],
    [TOP, -TOP], [-TOP, TOP, -TOP], [TOP, -TOP, TOP, -TOP], [0, TOP, TOP, -TOP, None],
    [1, 2, 3, 5, 8, 13], [13, 8, 5, 3, 2, 1], [3, 1, 4, 1, 5, 9, 2, 6], [100, 90, 80, 70],
    [7] * 63, [7] * 64, [None] * 64, ["~" * 20] * 64, [7] * 63 + [8],
    [None] * 30 + [4] * 34, ["a"] * 32 + ["b"] * 32, ["a", "b"] * 32, ["x", None] * 31 + ["y"],
    list(range(63)), list(range(64)), list(range(64, 0, -1)), [k * k for k in range(64)],
    [k * 10 ** 16 for k in range(-32, 32)], [(-1) ** k * TOP for k in range(64)],
    [str(k) for k in range(64)], ["t" + " $&~"[k % 4:] for k in range(63)],
    [None if k % 3 == 0 else k * 1000 for k in range(64)],
] + [[k % unlike for k in range(64)] for unlike in (1, 2, 3, 16, 17, 33)] + [
    [chr(33 + k) if k < 4 else chr(40 + k) for k in range(unlike)] * (64 // unlike) for unlike in (1, 2, 3, 16, 17, 33)
]


class BytesCase(unittest.TestCase):
    """A test case that asks for the why of refused rows of bytes."""

    def assert_why(self, why, take, *handed):
        with self.assertRaises(BadBytes) as caught:
            take(*handed)
        self.assertEqual(caught.exception.why, why, handed)
