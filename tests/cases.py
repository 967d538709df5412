"""What the test cases have in common."""

import unittest

from maskpaint.errors import BadMap, PaintError
from tests import wrong


class PaintCase(unittest.TestCase):
    def fails(self, wanted, function, *arguments):
        """Check that a call raises an error of just this class, and return the error."""
        with self.assertRaises(PaintError) as caught:
            function(*arguments)
        self.assertIs(type(caught.exception), wanted)
        return caught.exception

    def fails_for_each(self, wanted, values, call):
        """Check that a call raises an error of just this class for each of some values."""
        for at, value in enumerate(values):
            with self.subTest(at=at):
                self.fails(wanted, call, value)

    def fails_for_no_maps(self, calls):
        """Check that calls raise the error, with its part, for each value that is no map."""
        for at, (town, part) in enumerate(wrong.MAPS):
            for call in calls:
                with self.subTest(at=at):
                    self.same_kind(self.fails(BadMap, call, town).part, part)

    def same_kind(self, value, wanted):
        """Check that a value is a wanted one, and of its very kind (True is 1, but no number)."""
        self.assertEqual(value, wanted)
        self.assertIs(type(value), type(wanted))
