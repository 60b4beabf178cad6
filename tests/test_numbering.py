"""Point 11, and the section shelfdoors/numbering.py of the interface."""

import unittest

from shelfdoors.chains import Chain
from shelfdoors.errors import ChainError, InvalidBound, InvalidChain, InvalidNumber
from shelfdoors.normal import is_normal
from shelfdoors.numbering import chain_at, count_normal, number_of
from tests.support import CaseWithErrors, all_rows

NOT_BOUNDS = [0, 13, -1, True, False, 10 ** 30, None, "3"]
NOT_ENTRIES = [0, 5, -1, True, False, 10 ** 30, None, "1"]


def code_of(row, most):
    """Return the code of a normal segment, as [11] defines it."""
    return 2 ** (most - 1) if row == (1,) else sum(2 ** (capacity - 2) for capacity in row)


def number_by_definition(chain, most):
    """Return the number of a normal chain, read from the last digit on."""
    base = 2 ** (most - 1) + 1
    return sum(code_of(row, most) * base ** place for place, row in enumerate(reversed(chain.segments)))


class InterfaceExampleTest(unittest.TestCase):

    def test_example(self):
        self.assertEqual(
            [count_normal(2, most=3), str(chain_at(13, 2, most=3)), number_of(chain_at(13, 2, most=3), most=3)],
            [25, "3 | 2 3", 13],
        )


class CountTest(CaseWithErrors):

    def test_counts(self):
        self.assertEqual([count_normal(entries, most=1) for entries in range(1, 5)], [2, 4, 8, 16])
        self.assertEqual([count_normal(entries, most=2) for entries in range(1, 5)], [3, 9, 27, 81])
        self.assertEqual([count_normal(entries, most=12) for entries in (1, 2, 3, 4)],
                         [2049, 2049 ** 2, 2049 ** 3, 2049 ** 4])

    def test_counts_what_is_normal(self):
        for most in range(1, 6):
            normal = [row for row in all_rows(most, most) if is_normal(Chain(row))]
            self.assertEqual(count_normal(1, most=most), len(normal))
            self.assertEqual(count_normal(3, most=most), len(normal) ** 3)

    def test_the_default_of_most_is_12(self):
        self.assertEqual(count_normal(3), count_normal(3, most=12))

    def test_invalid_entries(self):
        for entries in NOT_ENTRIES:
            self.check_error(InvalidChain, {"segment": -1}, count_normal, entries)

    def test_invalid_bound(self):
        for most in NOT_BOUNDS:
            self.check_error(InvalidBound, {"bound": most}, lambda: count_normal(4, most=most))

    def test_entries_come_before_the_bound(self):
        for entries in NOT_ENTRIES:
            self.check_error(InvalidChain, {"segment": -1}, lambda: count_normal(entries, most=0))

    def test_most_is_passed_by_keyword(self):
        self.assertRaises(TypeError, count_normal, 2, 3)
        self.assertRaises(TypeError, number_of, Chain((2,)), 3)
        self.assertRaises(TypeError, chain_at, 0, 2, 3)

    def test_classes_of_the_errors(self):
        for error_class in (InvalidBound, InvalidChain, InvalidNumber):
            self.assertEqual(error_class.__bases__, (ChainError,))


class NumberTest(CaseWithErrors):

    def test_segments(self):
        self.assertEqual(number_of(Chain(())), 0)
        self.assertEqual(number_of(Chain((2,))), 1)
        self.assertEqual(number_of(Chain((3,))), 2)
        self.assertEqual(number_of(Chain((2, 3))), 3)
        self.assertEqual(number_of(Chain((12,))), 1024)
        self.assertEqual(number_of(Chain((2, 3, 4, 5, 6, 7, 8, 9, 10, 11, 12))), 2047)
        self.assertEqual(number_of(Chain((1,))), 2048)

    def test_the_single_capacity_1_has_the_last_code(self):
        self.assertEqual([number_of(Chain((1,)), most=most) for most in (1, 2, 3, 12)], [1, 2, 4, 2048])

    def test_the_first_segment_is_the_first_digit(self):
        self.assertEqual(number_of(Chain.read("2 | -")), 2049)
        self.assertEqual(number_of(Chain.read("- | 2")), 1)
        self.assertEqual(number_of(Chain.read("- | 2"), most=3), 1)
        self.assertEqual(number_of(Chain.read("2 | -"), most=3), 5)
        self.assertEqual(number_of(Chain.read("1 | 1 | 1 | 1")), 2049 ** 4 - 1)
        self.assertEqual(number_of(Chain.read("- | - | - | -")), 0)

    def test_one_chain_has_different_numbers(self):
        chain = Chain.read("2 | 1")
        self.assertEqual([number_of(chain, most=most) for most in (2, 3, 4, 12)], [5, 9, 17, 4097])

    def test_all_chains_of_a_bound(self):
        for most, entries in [(1, 1), (1, 4), (2, 1), (2, 3), (3, 2), (4, 2), (12, 1)]:
            seen = set()
            for number in range(count_normal(entries, most=most)):
                chain = chain_at(number, entries, most=most)
                self.assertTrue(is_normal(chain))
                self.assertEqual(chain.entries, entries)
                self.assertTrue(all(capacity <= most for row in chain.segments for capacity in row))
                self.assertEqual(number_of(chain, most=most), number)
                self.assertEqual(number_by_definition(chain, most), number)
                seen.add(str(chain))
            self.assertEqual(len(seen), count_normal(entries, most=most))

    def test_the_default_of_most_is_12(self):
        chain = Chain.read("2 12 | 1 | - | 5")
        self.assertEqual(number_of(chain), number_by_definition(chain, 12))
        self.assertEqual(number_of(chain), number_of(chain, most=12))

    def test_invalid_bound(self):
        for most in NOT_BOUNDS:
            self.check_error(InvalidBound, {"bound": most}, lambda: number_of(Chain((2, 3)), most=most))

    def test_the_bound_comes_before_the_chain(self):
        self.check_error(InvalidBound, {"bound": 0}, lambda: number_of(Chain((3, 3)), most=0))

    def test_segments_that_are_not_normal(self):
        cases = [
            ("1 2", 0), ("3 2", 0), ("3 3", 0), ("2 3 | 1 1", 1), ("- | 2 | 4 5 3 | 1 1", 2), ("1 | 1 | 1 | 1 2", 3),
        ]
        for text, segment in cases:
            self.check_error(InvalidChain, {"segment": segment}, number_of, Chain.read(text))

    def test_capacities_greater_than_most(self):
        cases = [("3", 2, 0), ("2", 1, 0), ("2 3 | 4", 3, 1), ("2 | - | 1 | 2 3 12", 11, 3), ("1 | 2", 1, 1)]
        for text, most, segment in cases:
            self.check_error(InvalidChain, {"segment": segment}, lambda: number_of(Chain.read(text), most=most))

    def test_the_first_segment_with_one_of_both_faults_is_told(self):
        self.check_error(InvalidChain, {"segment": 1}, lambda: number_of(Chain.read("2 | 5 | 1 2"), most=4))
        self.check_error(InvalidChain, {"segment": 1}, lambda: number_of(Chain.read("2 | 1 2 | 5"), most=4))

    def test_the_greatest_capacity_may_be_most(self):
        for most in range(2, 13):
            self.assertEqual(number_of(Chain((most,)), most=most), 2 ** (most - 2))


class ChainAtTest(CaseWithErrors):

    def test_first_and_last(self):
        for entries in range(1, 5):
            for most in (1, 2, 12):
                last = count_normal(entries, most=most) - 1
                self.assertEqual(chain_at(0, entries, most=most), Chain(*[()] * entries))
                self.assertEqual(chain_at(last, entries, most=most), Chain(*[(1,)] * entries))

    def test_the_default_of_most_is_12(self):
        self.assertEqual(chain_at(2048, 1), Chain((1,)))
        self.assertEqual(chain_at(2049 ** 3 + 2047, 4), Chain((2,), (), (), range(2, 13)))

    def test_large_numbers_and_back(self):
        for number in range(0, 2049 ** 4, 2049 ** 4 // 500):
            self.assertEqual(number_of(chain_at(number, 4)), number)

    def test_invalid_numbers(self):
        for entries in range(1, 5):
            for most in (1, 2, 12):
                count = count_normal(entries, most=most)
                for number in (-1, -count, count, count + 1, 10 ** 39, True, False, None):
                    self.check_error(InvalidNumber, {"number": number},
                                     lambda: chain_at(number, entries, most=most))

    def test_entries_come_first_then_the_bound(self):
        for number in (-1, 0, 10 ** 39, True):
            self.check_error(InvalidChain, {"segment": -1}, lambda: chain_at(number, 5, most=13))
            self.check_error(InvalidChain, {"segment": -1}, lambda: chain_at(number, 0))
            self.check_error(InvalidChain, {"segment": -1}, lambda: chain_at(number, True))
            self.check_error(InvalidBound, {"bound": 13}, lambda: chain_at(number, 4, most=13))
            self.check_error(InvalidBound, {"bound": True}, lambda: chain_at(number, 4, most=True))
            self.check_error(InvalidBound, {"bound": 0}, lambda: chain_at(number, 1, most=0))


if __name__ == "__main__":
    unittest.main()
