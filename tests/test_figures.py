"""Numbers of any size as figures, for [71]."""

import contextlib
import random
import sys
import unittest

from pillarstore.figures import are_figures, figures_of, number_of


@contextlib.contextmanager
def figures_unbounded():
    """Lets Python's own str and int tell numbers of any size."""
    bound = sys.get_int_max_str_digits()
    sys.set_int_max_str_digits(0)
    try:
        yield
    finally:
        sys.set_int_max_str_digits(bound)


def some_numbers():
    chance = random.Random(1)
    edges = [10 ** many + by for many in (0, 1, 17, 18, 59, 60, 61, 119, 120, 121, 180, 4300) for by in (-1, 0, 1)]
    return list(range(200)) + edges + [chance.randrange(10 ** many) for many in range(1, 200)] + [7 ** 9000, 10 ** 9000]


class FiguresTest(unittest.TestCase):
    def test_figures(self):
        for number in some_numbers():
            told, below = figures_of(number), figures_of(-number)
            with figures_unbounded():
                self.assertEqual((told, below), (str(number), str(-number)))

    def test_numbers(self):
        for number in some_numbers():
            with figures_unbounded():
                figures = str(number)
            self.assertEqual(number_of(figures), number)

    def test_more_than_python_tells(self):
        self.assertEqual(figures_of(10 ** 5000), "1" + "0" * 5000)
        self.assertEqual(figures_of(1 - 10 ** 5000), "-" + "9" * 5000)
        self.assertEqual(number_of("9" * 5000), 10 ** 5000 - 1)

    def test_what_figures_are(self):
        for word in ("0", "1", "9", "10", "100", "1234567890", "9" * 5000):
            self.assertTrue(are_figures(word), word)
        for word in (
            "", "00", "01", "007", "-1", "-0", "+1", "1 ", " 1", "1.", "1e3", "1_0", "a", "0x1", "-", "\u0661",
            "\u00b2", "1\u0661", "1\t",
        ):
            self.assertFalse(are_figures(word), word)


if __name__ == "__main__":
    unittest.main()
