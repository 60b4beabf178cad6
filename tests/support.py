"""What the tests of several files need."""

import unittest
from itertools import product

from shelfdoors.chains import Chain


class CaseWithErrors(unittest.TestCase):
    """A test case that checks an error with its class and its data."""

    def check_error(self, error_class, data, call, *arguments):
        """Check that a call raises an error of exactly this class, with exactly these attributes."""
        with self.assertRaises(error_class) as caught:
            call(*arguments)
        error = caught.exception
        self.assertIs(type(error), error_class)
        self.assertEqual(vars(error), {**data, "code": error_class.__name__})
        for name, value in data.items():
            self.assertIs(type(getattr(error, name)), type(value))


def all_rows(most, longest):
    """Return all segments with capacities up to most and up to so many levels."""
    return [row for many in range(longest + 1) for row in product(range(1, most + 1), repeat=many)]


def sample_chains():
    """Return chains of every number of segments, with empty, long and repeating ones."""
    texts = [
        "-", "1", "12", "1 1", "1 1 1", "2 1", "1 2", "2 3 | - | 12", "1 4 3 4 6 | 5 | 1",
        "- | - | - | -", "1 2 3 4 5 6 7 8 9 10 11 12", "12 12 | 1 1 2 | 3 1 | 2 2 3 1",
        "1 1 1 1 1 1 1 1 1 1 1 1 | 12 11 10 9 8 7 6 5 4 3 2 1",
    ]
    return [Chain.read(text) for text in texts]


def no_items(chain):
    """Return the contents of a chain that holds nothing."""
    return tuple(tuple(() for _ in row) for row in chain.segments)


def random_requests(generator, chain, many, items):
    """Return requests to all entries, of so many items and of anonymous ones."""
    return [
        (generator.randrange(chain.entries), generator.choice([-1, *range(items), *range(items)]))
        for _ in range(many)
    ]


class Reference:
    """A simulation of a chain by its definition, in which each anonymous item is a thing of its own."""

    def __init__(self, chain):
        self.chain = chain
        self.levels = {level: [] for level in chain.behind(0)}
        # For each request the tuples (level, item) of what was inserted and of what was evicted.
        self.inserted = []
        self.evicted = []

    def request(self, entry, item):
        thing = ["anonymous"] if item == -1 else item
        self.inserted.append([])
        self.evicted.append([])
        for level, held in self.levels.items():
            if level[0] < entry:
                continue
            if any(thing is other or (item != -1 and thing == other) for other in held):
                return level
            if len(held) == self.chain[level[0]][level[1]]:
                self.evicted[-1].append((level, held.pop(0)))
            held.append(thing)
            self.inserted[-1].append((level, thing))
        return None

    def contents(self):
        return tuple(
            tuple(tuple(-1 if isinstance(thing, list) else thing for thing in self.levels[(segment, at)])
                  for at in range(len(row)))
            for segment, row in enumerate(self.chain.segments)
        )
