"""Points 8 to 10, and the section shelfdoors/normal.py of the interface."""

import inspect
import unittest

from shelfdoors.chains import Chain
from shelfdoors.errors import EntriesDiffer, NoLevel
from shelfdoors.normal import (
    are_alike, is_covered, is_idle, is_normal, is_reduction, normal_chain, reduction, removable,
)
from tests.support import CaseWithErrors, all_rows, sample_chains

NOT_LEVELS = [(0, 3), (1, 0), (2, 1), (3, 0), (-1, 0), (0, -1), (0, True), (False, 0)]


def covered(chain):
    return [level for level in chain.behind(0) if is_covered(chain, level)]


def idle(chain):
    return [level for level in chain.behind(0) if is_idle(chain, level)]


def ends(chain):
    """Return the texts of all chains at which some reduction ends, with one such reduction each."""
    found = {}
    left = [(chain, [])]
    seen = set()
    while left:
        rest, steps = left.pop()
        levels = list(removable(rest))
        if not levels:
            found[str(rest)] = steps
        for level in levels:
            smaller = rest.without_level(level)
            if str(smaller) not in seen:
                seen.add(str(smaller))
                left.append((smaller, steps + [level]))
    return found


class InterfaceExampleTest(unittest.TestCase):

    def test_example(self):
        self.assertEqual(
            [str(normal_chain(Chain.read("1 4 3 4 6 | 5 | 1"))), str(normal_chain(Chain.read("1 1 1")))],
            ["4 6 | 5 | 1", "1"],
        )


class LevelsTest(CaseWithErrors):

    def test_covered(self):
        self.assertEqual(covered(Chain.read("1 4 3 4 6 | 5 | 1")), [(0, 2), (0, 3)])
        self.assertEqual(covered(Chain.read("3 3")), [(0, 1)])
        self.assertEqual(covered(Chain.read("2 3")), [])
        self.assertEqual(covered(Chain.read("5 2 6 4")), [(0, 1), (0, 3)])
        self.assertEqual(covered(Chain.read("1 1 1")), [(0, 1), (0, 2)])

    def test_other_segments_do_not_cover(self):
        self.assertEqual(covered(Chain.read("12 | 3 | - | 3 2")), [(3, 1)])

    def test_idle(self):
        self.assertEqual(idle(Chain.read("1 4")), [(0, 0)])
        self.assertEqual(idle(Chain.read("1")), [])
        self.assertEqual(idle(Chain.read("4 1")), [])
        self.assertEqual(idle(Chain.read("2 4")), [])
        self.assertEqual(idle(Chain.read("1 1 1")), [(0, 0)])
        self.assertEqual(idle(Chain.read("1 | 1 | 1 2 | 2 1 3")), [(2, 0)])

    def test_both_return_true_or_false(self):
        chain = Chain.read("1 4 3")
        for level in chain.behind(0):
            for call in (is_covered, is_idle):
                self.assertIn(call(chain, level), (True, False))
                self.assertIs(type(call(chain, level)), bool)
                self.assertIs(call(chain, list(level)), call(chain, level))

    def test_no_such_level(self):
        chain = Chain.read("1 4 3 | - | 2")
        for wrong in NOT_LEVELS:
            for call in (is_covered, is_idle):
                with self.subTest(wrong=wrong, call=call):
                    self.check_error(NoLevel, {"level": wrong}, call, chain, wrong)

    def test_removable(self):
        self.assertEqual(list(removable(Chain.read("1 4 3 4 6 | 5 | 1"))), [(0, 0), (0, 2), (0, 3)])
        self.assertEqual(list(removable(Chain.read("2 1 | 1 2 | 1"))), [(0, 1), (1, 0)])
        self.assertEqual(list(removable(Chain.read("- | 3 | 2 4"))), [])

    def test_removable_is_a_generator(self):
        self.assertTrue(inspect.isgeneratorfunction(removable))
        found = removable(Chain.read("1 2 2"))
        self.assertEqual([next(found), next(found)], [(0, 0), (0, 2)])
        with self.assertRaises(StopIteration):
            next(found)

    def test_removable_is_covered_or_idle(self):
        for chain in sample_chains():
            found = list(removable(chain))
            self.assertEqual(found, sorted(set(covered(chain) + idle(chain))))


class NormalChainTest(unittest.TestCase):

    def test_is_normal(self):
        for text in ("-", "1", "2 3", "12", "1 | 1 | 1 | 1", "- | 2 12 | -"):
            self.assertIs(is_normal(Chain.read(text)), True)
        for text in ("1 1", "1 2", "2 2", "2 1", "3 4 3", "- | 1 2", "1 | 2 2"):
            self.assertIs(is_normal(Chain.read(text)), False)

    def test_normal_chains(self):
        pairs = [
            ("-", "-"), ("1", "1"), ("1 1", "1"), ("1 2", "2"), ("2 1", "2"), ("1 1 2", "2"),
            ("1 2 1", "2"), ("3 3", "3"), ("2 3", "2 3"), ("3 2", "3"), ("5 2 6 4 12 12", "5 6 12"),
            ("1 2 3 4 5 6 7 8 9 10 11 12", "2 3 4 5 6 7 8 9 10 11 12"),
            ("12 11 10 9 8 7 6 5 4 3 2 1", "12"),
            ("1 2 | 1 | 2 1 | -", "2 | 1 | 2 | -"), ("4 | 4 | 3 | 4 4", "4 | 4 | 3 | 4"),
        ]
        for text, expected in pairs:
            with self.subTest(text=text):
                self.assertEqual(str(normal_chain(Chain.read(text))), expected)

    def test_a_normal_chain_stays(self):
        for chain in sample_chains():
            normal = normal_chain(chain)
            self.assertIsInstance(normal, Chain)
            self.assertTrue(is_normal(normal))
            self.assertEqual(normal_chain(normal), normal)
            self.assertEqual(is_normal(chain), normal == chain)

    def test_the_chain_stays(self):
        chain = Chain.read("1 4 3 4 6 | 5 | 1")
        normal_chain(chain)
        reduction(chain)
        is_reduction(chain, [(0, 0)])
        list(removable(chain))
        self.assertEqual(str(chain), "1 4 3 4 6 | 5 | 1")


class ReductionTest(unittest.TestCase):

    def test_all_reductions_end_at_the_normal_chain(self):
        for row in all_rows(3, 5):
            chain = Chain(row)
            found = ends(chain)
            self.assertEqual(list(found), [str(normal_chain(chain))])
            self.assertTrue(is_reduction(chain, list(found.values())[0]))

    def test_reductions(self):
        chains = sample_chains() + [Chain(row, other) for row in all_rows(3, 3) for other in all_rows(2, 2)]
        for chain in chains:
            steps = reduction(chain)
            self.assertIs(type(steps), list)
            self.assertEqual({type(step) for step in steps} - {tuple}, set())
            self.assertIs(is_reduction(chain, steps), True)
            rest = chain
            for step in steps:
                self.assertIn(step, list(removable(rest)))
                rest = rest.without_level(step)
            self.assertEqual(rest, normal_chain(chain))

    def test_reductions_of_normal_chains(self):
        self.assertEqual(reduction(Chain.read("2 3 | - | 1")), [])
        self.assertIs(is_reduction(Chain.read("2 3 | - | 1"), []), True)
        self.assertIs(is_reduction(Chain.read("2 3 | - | 1"), [(0, 0)]), False)

    def test_the_list_is_new(self):
        chain = Chain.read("1 2 2")
        first = reduction(chain)
        first.append((7, 7))
        self.assertEqual(len(reduction(chain)), 2)

    def test_is_reduction_follows_the_numbers(self):
        chain = Chain.read("1 4 3 4 6 | 5 | 1")
        for steps in ([(0, 0), (0, 1), (0, 1)], [(0, 2), (0, 2), (0, 0)], ((0, 3), (0, 2), (0, 0))):
            self.assertIs(is_reduction(chain, steps), True)
        for steps in (
            [], [(0, 0)], [(0, 0), (0, 1)], [(0, 0), (0, 2), (0, 3)], [(0, 1), (0, 0), (0, 1)],
            [(0, 0), (0, 1), (0, 1), (0, 0)], [(0, 0), (0, 1), (0, 1), (2, 0)],
            [(0, 0), (0, 1), (0, 1), (0, 9)], [(0, 4), (0, 0), (0, 1), (0, 1)],
            [(0, 0), (0, -3), (0, 1)], [(-3, 0), (0, 1), (0, 1)], [(9, 9)], [(0, False), (0, 1), (0, 1)],
        ):
            with self.subTest(steps=steps):
                self.assertIs(is_reduction(chain, steps), False)

    def test_levels_of_capacity_1(self):
        chain = Chain.read("1 1 1")
        for steps in ([(0, 0), (0, 0)], [(0, 1), (0, 1)], [(0, 2), (0, 0)], [(0, 2), (0, 1)]):
            self.assertIs(is_reduction(chain, steps), True)
        for steps in ([(0, 2)], [(0, 2), (0, 2)], [(0, 0), (0, 0), (0, 0)]):
            self.assertIs(is_reduction(chain, steps), False)

    def test_the_steps_are_not_modified(self):
        steps = [(0, 0), (0, 0)]
        is_reduction(Chain.read("1 1 2"), steps)
        self.assertEqual(steps, [(0, 0), (0, 0)])


class AlikeTest(CaseWithErrors):

    def test_alike(self):
        for one, other in (
            ("2 1", "1 2"), ("2", "1 2 2"), ("1 1", "1"), ("-", "-"), ("3 | 1 4", "3 2 1 | 4 4"),
        ):
            self.assertIs(are_alike(Chain.read(one), Chain.read(other)), True)
            self.assertIs(are_alike(Chain.read(other), Chain.read(one)), True)

    def test_not_alike(self):
        for one, other in (
            ("2", "3"), ("1", "-"), ("2 3", "3"), ("2 3", "3 2"), ("2 | 3", "3 | 2"), ("2 3 | -", "2 | 3"),
        ):
            self.assertIs(are_alike(Chain.read(one), Chain.read(other)), False)
            self.assertIs(are_alike(Chain.read(other), Chain.read(one)), False)

    def test_different_entries(self):
        for one, other in (("2", "2 | -"), ("-", "- | -"), ("2 | 3", "2 3"), ("1 | 1", "1 | 1 | 1 | 1")):
            self.check_error(EntriesDiffer, {}, are_alike, Chain.read(one), Chain.read(other))
            self.check_error(EntriesDiffer, {}, are_alike, Chain.read(other), Chain.read(one))

    def test_alike_as_the_normal_chains_are(self):
        chains = [chain for chain in sample_chains() if chain.entries == 1]
        for one in chains:
            self.assertTrue(are_alike(one, normal_chain(one)))
            for other in chains:
                self.assertEqual(are_alike(one, other), normal_chain(one) == normal_chain(other))


if __name__ == "__main__":
    unittest.main()
