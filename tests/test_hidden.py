"""Point 16, and the section shelfdoors/hidden.py of the interface."""

import random
import unittest

from shelfdoors.chains import Chain
from shelfdoors.errors import ChainError, InvalidBound, InvalidEntry, InvalidItem
from shelfdoors.hidden import Hidden, identify
from shelfdoors.normal import normal_chain
from shelfdoors.numbering import chain_at, count_normal
from tests.support import CaseWithErrors, Reference, random_requests, sample_chains


class Spy:
    """Passes on to a hidden chain what identify may use, and counts it."""

    def __init__(self, hidden):
        self.hidden = hidden
        self.entries = hidden.entries
        self.calls = 0

    def ask(self, entry, item):
        self.calls += 1
        return self.hidden.ask(entry, item)


def random_chain(generator, most):
    """Return a chain with capacities up to most, often with many levels."""
    return Chain(*[
        [generator.randint(1, most) for _ in range(generator.choice([0, 1, 2, 5, 12]))]
        for _ in range(generator.randint(1, 4))
    ])


class HiddenTest(CaseWithErrors):

    def test_ask_tells_whether_the_item_is_fetched(self):
        hidden = Hidden(Chain((2,), (3,)))
        self.assertIs(hidden.ask(0, 7), True)
        self.assertIs(hidden.ask(0, 7), False)
        self.assertIs(hidden.ask(1, 7), False)
        self.assertIs(hidden.ask(1, -1), True)
        self.assertIs(hidden.ask(1, -1), True)

    def test_as_a_simulation(self):
        generator = random.Random(16)
        for chain in sample_chains():
            for many in (0, 1, 5, 60):
                warm = random_requests(generator, chain, many, 5)
                requests = random_requests(generator, chain, 80, 5)
                reference = Reference(chain)
                expected = [reference.request(*request) is None for request in warm + requests][many:]
                hidden = Hidden(chain, warm=warm)
                self.assertEqual([hidden.ask(*request) for request in requests], expected)

    def test_warm(self):
        chain = Chain((2,), (3,))
        for warm, item, expected in [
            ([], 7, True), ((), 7, True), ([(0, 7)], 7, False), (((0, 7), (0, 8)), 8, False),
            ([(0, 7), (1, -1), (1, -1), (1, -1)], 7, False), ([(1, 7), (0, -1), (0, -1), (0, -1)], 7, True),
            ([(0, 7)] + [(0, -1)] * 900, 7, True), ([(0, 7)] * 900, 7, False),
        ]:
            self.assertIs(Hidden(chain, warm=warm).ask(0, item), expected)

    def test_properties(self):
        for chain in sample_chains():
            hidden = Hidden(chain, warm=[(0, 1), (0, 2)])
            self.assertEqual([hidden.entries, hidden.asked], [chain.entries, 0])
            hidden.ask(0, 1)
            hidden.ask(entry=chain.entries - 1, item=-1)
            self.assertEqual([hidden.entries, hidden.asked], [chain.entries, 2])

    def test_invalid_requests_in_ask(self):
        hidden = Hidden(Chain((2,), (3,)), warm=[(0, 7)])
        for entry in (2, 4, -1, True, False, None, "0"):
            self.check_error(InvalidEntry, {"entry": entry}, hidden.ask, entry, 7)
            self.check_error(InvalidEntry, {"entry": entry}, hidden.ask, entry, -2)
        for item in (-2, 10000, True, False, None, "7"):
            self.check_error(InvalidItem, {"item": item}, hidden.ask, 1, item)
        self.assertEqual(hidden.asked, 0)
        self.assertEqual([hidden.ask(0, 7), hidden.asked], [False, 1])
        self.check_error(InvalidEntry, {"entry": 2}, hidden.ask, 2, 7)
        self.assertEqual(hidden.asked, 1)

    def test_invalid_requests_in_warm(self):
        good = [(0, 1), (1, 2), (0, -1), (0, 3)]
        for place in (0, 2, 4):
            for entry in (2, -1, True, None):
                warm = good[:place] + [(entry, 10000)] + good[place:] + [(0, -2)]
                self.check_error(InvalidEntry, {"entry": entry}, lambda: Hidden(Chain((2,), (3,)), warm=warm))
            for item in (-2, 10000, False, "1"):
                warm = good[:place] + [(1, item)] + good[place:] + [(7, 1)]
                self.check_error(InvalidItem, {"item": item}, lambda: Hidden(Chain((2,), (3,)), warm=warm))
        self.assertEqual([InvalidEntry.__bases__, InvalidItem.__bases__], [(ChainError,), (ChainError,)])

    def test_arguments_stay(self):
        chain, warm = Chain((2,), (3,)), [(0, 1), (1, 2)]
        hidden = Hidden(chain=chain, warm=warm)
        warm.append((0, 9))
        self.assertIs(hidden.ask(0, 9), True)
        self.assertEqual([str(chain), warm], ["2 | 3", [(0, 1), (1, 2), (0, 9)]])
        with self.assertRaises(TypeError):
            Hidden(chain, warm)


class IdentifyTest(CaseWithErrors):

    def check_found(self, chain, most, warm=()):
        """Check that a hidden chain is identified, by few enough calls of ask."""
        spy = Spy(Hidden(chain, warm=warm))
        found = identify(spy, most=most)
        self.assertIs(type(found), Chain)
        self.assertEqual(found, normal_chain(chain), (chain, most, warm))
        self.assertLessEqual(spy.calls, chain.entries * most * (most + 20) ** 2)
        self.assertEqual(spy.hidden.asked, spy.calls)

    def test_example_of_the_interface(self):
        hidden = Hidden(Chain((3, 2, 4), (1, 2)), warm=[(0, 5), (1, 6)])
        self.assertEqual(str(identify(hidden, most=6)), "3 4 | 2")

    def test_every_normal_chain_with_small_capacities(self):
        generator = random.Random(17)
        for entries, most in [(1, 1), (1, 6), (2, 1), (2, 4), (3, 2), (3, 3), (4, 1), (4, 2)]:
            for number in range(count_normal(entries, most=most)):
                chain = chain_at(number, entries, most=most)
                self.check_found(chain, most)
                self.check_found(chain, most, random_requests(generator, chain, 20, 4))

    def test_every_normal_segment_up_to_capacity_12(self):
        for number in range(0, count_normal(1), 7):
            self.check_found(chain_at(number, 1), 12)
        self.check_found(chain_at(2048, 1), 12)

    def test_many_segments_and_levels(self):
        full = list(range(1, 13))
        for chain in (Chain(full, full, full, full), Chain(full[::-1], [], full, [1] * 12), Chain([], [], [], full),
                      Chain(full, [], [], [])):
            for warm in ([], [(0, item % 30) for item in range(1000)], [(entry, -1) for entry in range(4)] * 100):
                self.check_found(chain, 12, warm)

    def test_random_chains(self):
        generator = random.Random(18)
        for _ in range(150):
            most = generator.randint(1, 12)
            chain = random_chain(generator, most)
            warm = random_requests(generator, chain, generator.choice([0, 1, 3, 100]), 4)
            self.check_found(chain, generator.randint(most, 12), warm)

    def test_warm_lists_of_the_item_0(self):
        # Whatever item identify requests, the levels may already hold it.
        for chain in (Chain((2, 5), (3,)), Chain((1,), (4,)), Chain((), (2,))):
            for item in (0, 1, 2, 9998, 9999):
                self.check_found(chain, 5, [(0, item), (1, item)])
                self.check_found(chain, 5, [(1, item)])

    def test_a_bound_above_the_capacities(self):
        for most in range(3, 13):
            self.check_found(Chain((3, 2), (1,), (2, 3)), most)

    def test_segments_without_levels_and_with_the_single_capacity_1(self):
        for text in ("-", "1", "- | -", "1 | 1", "- | 1", "1 | -", "1 | - | 1 | -", "- | 1 | 12 | 1", "1 | 12 | - | 2"):
            self.check_found(Chain.read(text), 12)
        for text in ("-", "1", "1 1 1", "1 | - | 1 1", "- | - | - | -", "1 | 1 | 1 | 1"):
            self.check_found(Chain.read(text), 1)
            self.check_found(Chain.read(text), 1, [(0, 0), (0, -1), (0, 0)])

    def test_chains_that_are_not_normal(self):
        for chain in sample_chains():
            self.check_found(chain, 12)
            self.check_found(chain, 12, [(0, 0), (0, 1), (0, 2), (0, 1), (0, -1)])

    def test_a_chain_that_was_asked_before(self):
        hidden = Hidden(Chain((2, 4), (3,)))
        for item in (0, 1, 0, 2, 0, -1, 3):
            hidden.ask(0, item)
            hidden.ask(1, 0)
        self.assertEqual(identify(hidden, most=4), Chain((2, 4), (3,)))
        self.assertEqual(identify(hidden, most=9), Chain((2, 4), (3,)))

    def test_the_default_of_most_is_12(self):
        for text in ("12 | 11 12", "2"):
            self.assertEqual(identify(Hidden(Chain.read(text))), Chain.read(text))

    def test_invalid_bounds(self):
        for most in (0, 13, -1, True, False, None, "3", 10 ** 30):
            hidden = Hidden(Chain((2,)))
            self.check_error(InvalidBound, {"bound": most}, lambda: identify(hidden, most=most))
            self.assertEqual(hidden.asked, 0)
        self.assertEqual(InvalidBound.__bases__, (ChainError,))

    def test_arguments_by_name(self):
        self.assertEqual(identify(hidden=Hidden(Chain((2,))), most=3), Chain((2,)))
        with self.assertRaises(TypeError):
            identify(Hidden(Chain((2,))), 3)


if __name__ == "__main__":
    unittest.main()
