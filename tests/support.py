"""What several test files need."""

import unittest

from pillarstore.errors import BadBytes


class BytesCase(unittest.TestCase):
    """A test case that asks for the why of refused rows of bytes."""

    def assert_why(self, why, take, *handed):
        with self.assertRaises(BadBytes) as caught:
            take(*handed)
        self.assertEqual(caught.exception.why, why, handed)
