"""Point 10, and the section shelfdoors/separate.py of the interface."""

import random
import unittest

from shelfdoors.chains import Chain
from shelfdoors.errors import ChainError, EntriesDiffer, InvalidEntry, InvalidItem
from shelfdoors.normal import are_alike, normal_chain
from shelfdoors.numbering import chain_at, count_normal
from shelfdoors.separate import is_separating, separating
from tests.support import CaseWithErrors, Reference, random_requests, sample_chains


def fetched(chain, requests):
    """Return for each request whether a simulation of a chain that starts empty fetches its item."""
    reference = Reference(chain)
    return [reference.request(entry, item) is None for entry, item in requests]


def separates(one, other, requests):
    """Tell whether a list separates two chains, as [10] defines it."""
    rows, others = fetched(one, requests), fetched(other, requests)
    return bool(rows) and rows[-1] != others[-1] and all(
        row == peer for row, peer in zip(rows[:-1], others[:-1])
    )


def bound(one, other):
    """Return how many requests a separating list may have."""
    capacities = [
        capacity for chain in (one, other) for row in normal_chain(chain).segments for capacity in row
    ]
    return sum(capacities) + 2 * max(capacities) + 2


def normal_chains(entries, most):
    """Return all normal chains with so many entries and capacities up to most."""
    return [chain_at(number, entries, most=most) for number in range(count_normal(entries, most=most))]


class SeparatingTest(CaseWithErrors):

    def check_list(self, one, other):
        """Check that the list of two chains that are not alike separates them, and is short enough."""
        requests = separating(one, other)
        self.assertIs(type(requests), list)
        self.assertTrue(all(type(request) is tuple and len(request) == 2 for request in requests))
        self.assertTrue(separates(one, other, requests), (one, other, requests))
        # This also raises an error if a request is invalid, which the simulation does not.
        self.assertIs(is_separating(one, other, requests), True)
        self.assertLessEqual(len(requests), bound(one, other))

    def check_texts(self, one, other):
        """Check the lists of the chains of two texts, both ways."""
        self.check_list(Chain.read(one), Chain.read(other))
        self.check_list(Chain.read(other), Chain.read(one))

    def test_example_of_the_interface(self):
        requests = [(0, 1), (0, 2), (0, 3), (0, 1), (0, 4), (0, 1)]
        self.assertEqual(
            [separating(Chain((2, 1)), Chain((1, 2))), is_separating(Chain((2, 3)), Chain((3,)), requests)],
            [None, True],
        )

    def test_alike_chains(self):
        for one, other in [("2 1", "1 2"), ("-", "-"), ("1", "1 1 1"), ("1 4 3 4 6 | 5 | 1", "4 6 | 5 | 1"),
                           ("- | 3 | -", "- | 3 3 | -"), ("12", "12 11 10")]:
            self.assertIsNone(separating(Chain.read(one), Chain.read(other)))
            self.assertIsNone(separating(Chain.read(other), Chain.read(one)))
        for chain in sample_chains():
            self.assertIsNone(separating(chain, chain))
            self.assertIsNone(separating(chain, normal_chain(chain)))

    def test_chains_that_differ_in_one_segment(self):
        self.check_texts("2 3 | 4", "3 | 4")
        self.check_texts("5 | 2 4 | 12", "5 | 3 4 | 12")
        self.check_texts("5 | 2 4 | 3 | 7", "5 | 2 4 | 3 | 6 7")
        self.check_texts("2 | - | - | -", "- | - | - | -")
        self.check_texts("- | - | - | 2", "- | - | - | -")

    def test_chains_that_differ_in_several_segments(self):
        self.check_texts("2 3 | 4", "3 | 4 5")
        self.check_texts("3 | 2", "2 | 3")
        self.check_texts("- | 12", "12 | -")
        self.check_texts("1 | 2 3 | - | 5 6", "2 | - | 3 | 6")

    def test_chains_that_differ_by_a_capacity(self):
        self.check_texts("2", "3")
        self.check_texts("2 5 9", "2 6 9")
        self.check_texts("11 12", "10 12")
        self.check_texts("2 4 6 8 10 12", "3 4 6 8 10 12")
        self.check_texts("1", "2")
        self.check_texts("1", "12")

    def test_chains_that_differ_by_a_level(self):
        self.check_texts("2 3", "3")
        self.check_texts("2 3", "2")
        self.check_texts("2 3 4 5 6 7 8 9 10 11 12", "3 4 5 6 7 8 9 10 11 12")
        self.check_texts("2 3 4 5 6 7 8 9 10 11 12", "2 3 4 5 6 7 8 9 10 11")
        self.check_texts("2 3 4 5 6 8 9 10 11 12", "2 3 4 5 6 7 8 9 10 11 12")
        self.check_texts("2 12", "-")

    def test_the_single_capacity_1_against_no_levels(self):
        self.check_texts("1", "-")
        self.check_texts("1 | 12", "- | 12")
        self.check_texts("12 | 1", "12 | -")
        self.check_texts("- | 1 | - | 3", "- | - | - | 3")
        self.assertEqual(bound(Chain((1,)), Chain(())), 5)

    def test_chains_that_are_not_normal(self):
        self.check_texts("1 4 3 4 6 | 5 | 1", "1 4 3 4 7 | 5 | 1")
        self.check_texts("12 12 12 | 1 1 2", "12 11 | 1 1 3")
        self.check_texts("1 1 1", "-")
        # The bound counts what is left of the chains.
        self.check_texts("2 " + " ".join(["1"] * 11), "1 " * 11 + "1")

    def test_every_pair_of_small_normal_chains(self):
        for entries, most in [(1, 5), (2, 3), (3, 2), (4, 1)]:
            chains = normal_chains(entries, most)
            for one in chains:
                for other in chains:
                    if one == other:
                        self.assertIsNone(separating(one, other))
                    else:
                        self.check_list(one, other)

    def test_random_chains(self):
        generator = random.Random(10)
        for _ in range(150):
            one, other = [
                Chain(*[[generator.randint(1, 12) for _ in range(generator.choice([0, 1, 2, 3, 12]))]
                        for _ in range(4)])
                for _ in range(2)
            ]
            if are_alike(one, other):
                self.assertIsNone(separating(one, other))
            else:
                self.check_list(one, other)

    def test_entries_differ(self):
        for one, other in [("2", "2 | -"), ("- | -", "-"), ("2 | 3 | 4 | 5", "2 3 4 5")]:
            chains = (Chain.read(one), Chain.read(other))
            self.check_error(EntriesDiffer, {}, separating, *chains)
        self.assertEqual(EntriesDiffer.__bases__, (ChainError,))

    def test_arguments_stay_and_the_list_is_new(self):
        one, other = Chain((1, 3, 2), (4,)), Chain((3,), (5,))
        first = separating(one, other)
        again = list(first)
        first.append("more")
        self.assertEqual(separating(one=one, other=other), again)
        self.assertEqual([str(one), str(other)], ["1 3 2 | 4", "3 | 5"])


class IsSeparatingTest(CaseWithErrors):

    def test_an_empty_list(self):
        self.assertIs(is_separating(Chain((2,)), Chain((3,)), []), False)
        self.assertIs(is_separating(Chain((2,)), Chain((3,)), ()), False)
        self.assertIs(is_separating(Chain((2,)), Chain((2,)), []), False)

    def test_the_last_request_is_fetched_by_one_only(self):
        one, other = Chain((2,)), Chain((3,))
        requests = [(0, 1), (0, 2), (0, 3), (0, 1)]
        self.assertIs(is_separating(one, other, requests), True)
        self.assertIs(is_separating(other, one, requests), True)
        self.assertIs(is_separating(one, other, tuple(requests)), True)
        # Both chains fetch the last one, or neither.
        self.assertIs(is_separating(one, other, requests[:-1]), False)
        self.assertIs(is_separating(one, other, requests[:-1] + [(0, 3)]), False)
        self.assertIs(is_separating(one, other, requests[:-1] + [(0, -1)]), False)

    def test_earlier_requests_are_fetched_by_both_or_by_neither(self):
        one, other = Chain((2,)), Chain((3,))
        requests = [(0, 1), (0, 2), (0, 2), (0, 3), (0, 1)]
        self.assertIs(is_separating(one, other, requests), True)
        self.assertIs(is_separating(one, other, requests + [(0, 2)]), False)
        self.assertIs(is_separating(one, other, requests + [(0, -1), (0, -1), (0, 3)]), False)
        # The last request would separate, if one before it did not.
        for more in ([], [(0, -1)]):
            both = requests + more + requests
            rows, others = fetched(one, both), fetched(other, both)
            self.assertEqual([rows[-1] != others[-1], is_separating(one, other, both)], [True, False])

    def test_a_single_request(self):
        self.assertIs(is_separating(Chain((2,)), Chain(()), [(0, 1)]), False)
        self.assertIs(is_separating(Chain((2,)), Chain(()), [(0, 1), (0, 1)]), True)

    def test_anonymous_items(self):
        one, other = Chain((1,)), Chain((2,))
        self.assertIs(is_separating(one, other, [(0, 7), (0, -1), (0, 7)]), True)
        self.assertIs(is_separating(one, other, [(0, -1), (0, -1)]), False)
        self.assertIs(is_separating(one, other, [(0, 7), (0, -1), (0, -1), (0, 7)]), False)

    def test_alike_chains(self):
        for one, other in [("2 1", "1 2"), ("3 | 1 4", "3 2 | 4"), ("-", "-")]:
            chains = (Chain.read(one), Chain.read(other))
            for requests in ([(0, 1), (0, 1)], [(0, 1), (0, 2), (0, 1)], [(0, 1), (0, 2), (0, 3), (0, 1)]):
                self.assertIs(is_separating(*chains, requests), False)

    def test_other_levels_are_no_difference(self):
        # The same item is hit in different levels.
        self.assertIs(is_separating(Chain((2,), ()), Chain((), (2,)), [(0, 1), (0, 1)]), False)
        self.assertIs(is_separating(Chain((2,), ()), Chain((), (2,)), [(0, 1), (1, 1)]), True)

    def test_as_the_definition_says(self):
        generator = random.Random(11)
        chains = normal_chains(2, 3)
        found = []
        for _ in range(1500):
            one, other = generator.choice(chains), generator.choice(chains)
            requests = random_requests(generator, one, generator.randint(0, 8), 2)
            result = is_separating(one, other, requests)
            self.assertIs(result, separates(one, other, requests))
            found.append(result)
        self.assertGreater(sum(found), 50)

    def test_entries_differ(self):
        for requests in ([], [(0, 1)], [(9, 1)], [(0, -2)]):
            self.check_error(EntriesDiffer, {}, is_separating, Chain((2,)), Chain((2,), ()), requests)
            self.check_error(EntriesDiffer, {}, is_separating, Chain((2,), ()), Chain((2,)), requests)

    def test_invalid_requests(self):
        one, other = Chain((2,), (3,)), Chain((3,), (3,))
        good = [(0, 1), (0, 2), (0, 3), (0, 1), (0, 4)]
        for place in (0, 2, 4, 5):
            for entry in (2, -1, True, None):
                requests = good[:place] + [(entry, 10000)] + good[place:] + [(0, -2)]
                self.check_error(InvalidEntry, {"entry": entry}, is_separating, one, other, requests)
            for item in (-2, 10000, False, "1"):
                requests = good[:place] + [(1, item)] + good[place:] + [(7, 1)]
                self.check_error(InvalidItem, {"item": item}, is_separating, one, other, requests)

    def test_invalid_requests_between_alike_chains(self):
        self.check_error(InvalidEntry, {"entry": 1}, is_separating, Chain((2,)), Chain((2,)), [(0, 1), (1, 1)])

    def test_arguments_stay(self):
        one, other, requests = Chain((2,)), Chain((3,)), [(0, 1), (0, 2), (0, 3), (0, 1)]
        self.assertIs(is_separating(one=one, other=other, requests=requests), True)
        self.assertEqual([str(one), str(other), requests], ["2", "3", [(0, 1), (0, 2), (0, 3), (0, 1)]])


if __name__ == "__main__":
    unittest.main()
