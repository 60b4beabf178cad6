"""Point 12, and the section shelfdoors/reasons.py of the interface."""

import random
import unittest

from shelfdoors.chains import Chain
from shelfdoors.errors import ChainError, InvalidEntry, InvalidItem
from shelfdoors.reasons import explanation
from tests.support import CaseWithErrors, Reference, random_requests, sample_chains


def by_definition(chain, requests):
    """Return the explanation as a simulation finds it that writes down each insertion and eviction."""
    reference = Reference(chain)
    for entry, item in requests[:-1]:
        reference.request(entry, item)
    entry, item = requests[-1]
    rows = []
    for level, held in reference.levels.items():
        if level[0] < entry:
            continue
        ins = [at for at, found in enumerate(reference.inserted) if (level, item) in found]
        outs = [at for at, found in enumerate(reference.evicted) if (level, item) in found]
        if item in held:
            return rows + [(*level, "hit", ins[-1], None)]
        if ins:
            rows.append((*level, "evicted", ins[-1], outs[-1]))
        else:
            rows.append((*level, "absent", None, None))
    return rows


class ExplanationTest(CaseWithErrors):

    def test_example_of_the_interface(self):
        self.assertEqual(
            explanation(Chain((2, 3)), [(0, 7), (0, 8), (0, 9), (0, 7)]),
            [(0, 0, "evicted", 0, 2), (0, 1, "hit", 0, None)],
        )

    def test_absent(self):
        self.assertEqual(explanation(Chain((2, 3)), [(0, 7)]),
                         [(0, 0, "absent", None, None), (0, 1, "absent", None, None)])
        self.assertEqual(explanation(Chain((2,)), [(0, 7), (0, 8)]), [(0, 0, "absent", None, None)])

    def test_hit(self):
        self.assertEqual(explanation(Chain((2, 3)), [(0, 7), (0, 7)]), [(0, 0, "hit", 0, None)])
        self.assertEqual(explanation(Chain((2,)), [(0, 8), (0, 7), (0, 7), (0, 7)]), [(0, 0, "hit", 1, None)])

    def test_levels_behind_a_hit_are_not_explained(self):
        requests = [(0, 1), (0, 2), (0, 1)]
        self.assertEqual(explanation(Chain((1, 2, 3), (4,)), requests),
                         [(0, 0, "evicted", 0, 1), (0, 1, "hit", 0, None)])

    def test_evicted_at_the_very_request_before(self):
        self.assertEqual(explanation(Chain((1,)), [(0, 7), (0, 8), (0, 7)]), [(0, 0, "evicted", 0, 1)])

    def test_evicted_more_than_once(self):
        requests = [(0, 7), (0, 8), (0, 7), (0, 8), (0, 9), (0, 7)]
        self.assertEqual(explanation(Chain((1,)), requests), [(0, 0, "evicted", 2, 3)])
        requests = [(0, 7), (0, 8), (0, 9), (0, 7), (0, 1), (0, 2), (0, 3), (0, 7)]
        self.assertEqual(explanation(Chain((2,)), requests), [(0, 0, "evicted", 3, 5)])

    def test_evicted_and_inserted_again(self):
        requests = [(0, 7), (0, 8), (0, 7), (0, 7)]
        self.assertEqual(explanation(Chain((1,)), requests), [(0, 0, "hit", 2, None)])

    def test_all_three_words(self):
        chain = Chain((1,), (1, 2), (5,))
        requests = [(2, 7), (0, 8), (1, 9), (0, 7)]
        self.assertEqual(explanation(chain, requests), [
            (0, 0, "absent", None, None), (1, 0, "absent", None, None), (1, 1, "absent", None, None),
            (2, 0, "hit", 0, None),
        ])
        requests = [(1, 7), (0, 8), (0, 7)]
        self.assertEqual(explanation(chain, requests), [
            (0, 0, "absent", None, None), (1, 0, "evicted", 0, 1), (1, 1, "hit", 0, None),
        ])

    def test_only_levels_behind_the_entry(self):
        chain = Chain((2,), (), (3, 4))
        self.assertEqual(explanation(chain, [(0, 7), (2, 8)]),
                         [(2, 0, "absent", None, None), (2, 1, "absent", None, None)])
        self.assertEqual(explanation(chain, [(0, 7), (1, 7)]), [(2, 0, "hit", 0, None)])
        self.assertEqual(explanation(chain, [(2, 7), (0, 7)]), [(0, 0, "absent", None, None), (2, 0, "hit", 0, None)])

    def test_no_levels_behind_the_entry(self):
        self.assertEqual(explanation(Chain(()), [(0, 7)]), [])
        self.assertEqual(explanation(Chain((2,), ()), [(0, 7), (1, 7)]), [])

    def test_a_hit_does_not_count_as_an_insertion(self):
        requests = [(0, 7), (0, 8), (0, 7), (0, 9), (0, 7)]
        self.assertEqual(explanation(Chain((2,)), requests), [(0, 0, "evicted", 0, 3)])

    def test_item_0_and_index_0(self):
        self.assertEqual(explanation(Chain((1,)), [(0, 0), (0, 9999), (0, 0)]), [(0, 0, "evicted", 0, 1)])
        self.assertEqual(explanation(Chain((1,)), [(0, 9999), (0, 9999)]), [(0, 0, "hit", 0, None)])

    def test_anonymous_items_are_absent(self):
        chain = Chain((1, 2), (3,))
        absent = [(0, 0, "absent", None, None), (0, 1, "absent", None, None), (1, 0, "absent", None, None)]
        for before in ([], [(0, -1)], [(0, -1), (1, -1), (0, -1), (0, 5), (0, -1)]):
            self.assertEqual(explanation(chain, before + [(0, -1)]), absent)
            self.assertEqual(explanation(chain, before + [(1, -1)]), absent[2:])

    def test_anonymous_items_evict(self):
        self.assertEqual(explanation(Chain((2,)), [(0, 7), (0, -1), (0, -1), (0, 7)]), [(0, 0, "evicted", 0, 2)])

    def test_as_the_definition_finds_it(self):
        generator = random.Random(12)
        for chain in sample_chains() + [Chain.read("1 2 3 | 2 4 | 3"), Chain.read("2 1 3 | 1 | 2 | 5")]:
            for items in (2, 4, 9):
                requests = random_requests(generator, chain, 60, items)
                for many in range(1, 61):
                    rows = explanation(chain, requests[:many])
                    self.assertEqual(rows, by_definition(chain, requests[:many]))
                    self.assertTrue(all(type(row) is tuple for row in rows))

    def test_many_requests(self):
        requests = [(0, 7)] + [(0, item) for item in range(100, 1098)] + [(0, 7)]
        self.assertEqual(explanation(Chain((12, 3)), requests), [(0, 0, "evicted", 0, 12), (0, 1, "evicted", 0, 3)])

    def test_invalid_requests(self):
        chain = Chain((2,), (3,))
        for entry in (2, 4, -1, True, False, None):
            self.check_error(InvalidEntry, {"entry": entry}, explanation, chain, [(entry, 7)])
        for item in (-2, 10000, 10 ** 30, True, False, None):
            self.check_error(InvalidItem, {"item": item}, explanation, chain, [(1, item)])
        self.check_error(InvalidEntry, {"entry": 2}, explanation, chain, [(2, -2)])

    def test_the_first_invalid_request_is_told(self):
        chain = Chain((2,), (3,))
        good = [(0, 1), (1, 2), (0, -1), (0, 3)]
        for place in range(len(good) + 1):
            bad = good[:place] + [(0, 10000)] + good[place:] + [(2, 0)]
            self.check_error(InvalidItem, {"item": 10000}, explanation, chain, bad)
            bad = good[:place] + [(5, 10000)] + good[place:] + [(0, 10001)]
            self.check_error(InvalidEntry, {"entry": 5}, explanation, chain, bad)

    def test_classes_of_the_errors(self):
        self.assertEqual([InvalidEntry.__bases__, InvalidItem.__bases__], [(ChainError,), (ChainError,)])

    def test_arguments_stay_and_the_result_is_new(self):
        chain, requests = Chain((2, 3)), [(0, 7), (0, 8), (0, 9), (0, 7)]
        first = explanation(chain, requests)
        first.append("more")
        self.assertEqual(explanation(chain, tuple(requests)), first[:-1])
        self.assertEqual(requests, [(0, 7), (0, 8), (0, 9), (0, 7)])
        self.assertEqual(chain, Chain((2, 3)))


if __name__ == "__main__":
    unittest.main()
