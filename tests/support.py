"""What the tests of several files need."""

import unittest
from itertools import product

from shelfdoors.chains import Chain


class CaseWithErrors(unittest.TestCase):
    """A test case that checks an error with its class and its data."""

    def check_error(self, error_class, data, call, *arguments):
        """Check that a call raises an error of exactly this class, with exactly these attributes."""
        with self.assertRaises(error_class) as caught:
            call(*arguments)
        error = caught.exception
        self.assertIs(type(error), error_class)
        self.assertEqual(vars(error), {**data, "code": error_class.__name__})
        for name, value in data.items():
            self.assertIs(type(getattr(error, name)), type(value))


def all_rows(most, longest):
    """Return all segments with capacities up to most and up to so many levels."""
    return [row for many in range(longest + 1) for row in product(range(1, most + 1), repeat=many)]


def sample_chains():
    """Return chains of every number of segments, with empty, long and repeating ones."""
    texts = [
        "-", "1", "12", "1 1", "1 1 1", "2 1", "1 2", "2 3 | - | 12", "1 4 3 4 6 | 5 | 1",
        "- | - | - | -", "1 2 3 4 5 6 7 8 9 10 11 12", "12 12 | 1 1 2 | 3 1 | 2 2 3 1",
        "1 1 1 1 1 1 1 1 1 1 1 1 | 12 11 10 9 8 7 6 5 4 3 2 1",
    ]
    return [Chain.read(text) for text in texts]
