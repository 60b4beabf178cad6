"""Points 3 and 4, and the section shelfdoors/chains.py of the interface."""

import unittest
from unittest import mock

from shelfdoors.chains import Chain
from shelfdoors.errors import InvalidChain, InvalidEntry, InvalidText, NoLevel
from tests.support import CaseWithErrors, all_rows, sample_chains

WRONG_CAPACITIES = [0, 13, -1, True, False, None, "3", 2.0, 10 ** 39]
NOT_ENTRIES = [3, 4, -1, -3, True, False, None, "0", 1.0, (0, 0), slice(0, 1)]
NOT_LEVELS = [
    (0, 2), (1, 0), (2, 1), (3, 0), (-1, 0), (0, -1), (2, -1), (-3, 0),
    (0, True), (False, 0), (False, False), (0, 10 ** 39), (10 ** 39, 0),
]


class InterfaceExampleTest(unittest.TestCase):

    def test_example(self):
        chain = Chain((2, 3), (), [12])
        self.assertEqual(
            [str(chain), chain.entries, len(chain), chain.behind(1), str(chain * Chain.plain(4))],
            ["2 3 | - | 12", 3, 3, [(2, 0)], "2 3 | - | 12 4"],
        )


class ConstructorTest(CaseWithErrors):

    def test_limits_of_the_class(self):
        self.assertEqual([Chain.MAX_SEGMENTS, Chain.MAX_LEVELS, Chain.MAX_CAPACITY], [4, 12, 12])
        self.assertEqual(Chain((1,)).MAX_LEVELS, 12)

    def test_numbers_of_segments(self):
        for many in (1, 2, 3, 4):
            self.assertEqual(Chain(*([()] * many)).entries, many)
        for many in (0, 5, 6, 9):
            self.check_error(InvalidChain, {"segment": -1}, Chain, *([()] * many))

    def test_numbers_of_levels(self):
        for many in (0, 1, 11, 12):
            self.assertEqual(len(Chain([3] * many)), many)
        for many in (13, 14, 40):
            self.check_error(InvalidChain, {"segment": 0}, Chain, [3] * many)

    def test_capacities(self):
        self.assertEqual(Chain(list(range(1, 13))).segments, (tuple(range(1, 13)),))
        for wrong in WRONG_CAPACITIES:
            with self.subTest(wrong=wrong):
                self.check_error(InvalidChain, {"segment": 0}, Chain, [wrong])
                self.check_error(InvalidChain, {"segment": 0}, Chain, (5, wrong))
                self.check_error(InvalidChain, {"segment": 2}, Chain, (5,), (), (wrong, 5), ())

    def test_the_first_wrong_segment_is_told(self):
        self.check_error(InvalidChain, {"segment": 1}, Chain, (1,), (0,), (13,), [1] * 13)
        self.check_error(InvalidChain, {"segment": 1}, Chain, (1,), [1] * 13, (0,))
        self.check_error(InvalidChain, {"segment": 3}, Chain, (1,), (), (), [1] * 12 + [0])

    def test_the_number_of_segments_is_told_first(self):
        self.check_error(InvalidChain, {"segment": -1}, Chain, (0,), (13,), [1] * 13, (), ())

    def test_lists_and_tuples(self):
        self.assertEqual(Chain([2, 3], [], [12]), Chain((2, 3), (), (12,)))
        self.assertEqual(Chain([2, 3], []).segments, ((2, 3), ()))

    def test_the_segments_are_copied_and_not_modified(self):
        first = [2, 3]
        second = []
        chain = Chain(first, second)
        self.assertEqual([first, second], [[2, 3], []])
        first.append(4)
        second.append(5)
        self.assertEqual(chain.segments, ((2, 3), ()))


class PropertiesTest(CaseWithErrors):

    def test_properties(self):
        chain = Chain((2, 3), (), [12])
        self.assertEqual([chain.segments, chain.entries], [((2, 3), (), (12,)), 3])
        self.assertEqual({type(row) for row in chain.segments}, {tuple})
        for name in ("segments", "entries"):
            self.assertIsInstance(vars(Chain)[name], property)
            with self.assertRaises(AttributeError):
                setattr(chain, name, 1)

    def test_length(self):
        self.assertEqual(len(Chain(())), 0)
        self.assertEqual(len(Chain((), (), (), ())), 0)
        self.assertEqual(len(Chain((2, 3), (), (12,))), 3)
        self.assertEqual(len(Chain(*([[1] * 12] * 4))), 48)

    def test_equal(self):
        self.assertTrue(Chain((2, 3), ()) == Chain([2, 3], []))
        self.assertFalse(Chain((2, 3), ()) != Chain([2, 3], []))
        for other in (Chain((2, 3)), Chain((2,), (3,)), Chain((3, 2), ()), Chain((), (2, 3))):
            self.assertFalse(Chain((2, 3), ()) == other)
            self.assertTrue(Chain((2, 3), ()) != other)

    def test_not_equal_to_other_objects(self):
        for other in ("2 3", ((2, 3),), [[2, 3]], [(2, 3)], 2, None, object(), mock.ANY):
            self.assertFalse(Chain((2, 3)) == other)

    def test_texts(self):
        self.assertEqual(str(Chain((2,), (3, 4))), "2 | 3 4")
        self.assertEqual(repr(Chain((2,), (3, 4))), "Chain(2 | 3 4)")
        self.assertEqual(str(Chain((), (10, 12), (), ())), "- | 10 12 | - | -")
        self.assertEqual([str(Chain(())), repr(Chain(()))], ["-", "Chain(-)"])

    def test_segment_by_its_number(self):
        chain = Chain([2, 3], [], [12])
        self.assertEqual([chain[0], chain[1], chain[2]], [(2, 3), (), (12,)])
        for wrong in NOT_ENTRIES:
            with self.subTest(wrong=wrong):
                self.check_error(InvalidEntry, {"entry": wrong}, lambda: chain[wrong])

    def test_levels_in_the_chain(self):
        chain = Chain((2, 3), (), (12,))
        for level in ((0, 0), (0, 1), (2, 0), [0, 1]):
            self.assertIs(level in chain, True)
            self.assertIs(level not in chain, False)
        for level in NOT_LEVELS:
            with self.subTest(level=level):
                self.assertIs(level in chain, False)

    def test_what_is_no_pair_is_no_level(self):
        for other in ((), (0,), (0, 0, 0), 0, None, "00", ("0", "0"), (0, None)):
            self.assertIs(other in Chain((2, 3)), False)

    def test_not_iterated_over(self):
        with self.assertRaises(TypeError):
            list(Chain((2, 3), (1,)))


class OperatorsTest(CaseWithErrors):

    def test_sum(self):
        self.assertEqual(Chain((2,), ()) + Chain((), (3, 1)), Chain((2,), (), (), (3, 1)))
        self.assertEqual(Chain(()) + Chain((5,)), Chain((), (5,)))
        self.assertEqual(Chain((5,)) + Chain(()), Chain((5,), ()))

    def test_product(self):
        self.assertEqual(Chain((2,), (4,)) * Chain((3, 1), (7,)), Chain((2,), (4, 3, 1), (7,)))
        self.assertEqual(Chain(()) * Chain((5,)), Chain((5,)))
        self.assertEqual(Chain((2,), ()) * Chain((), (3,)), Chain((2,), (), (3,)))
        self.assertEqual(Chain([1] * 5) * Chain([2] * 7), Chain([1] * 5 + [2] * 7))

    def test_too_many_segments(self):
        two = Chain((1,), (2,))
        three = Chain((1,), (), (3,))
        self.assertEqual((two + two).entries, 4)
        self.check_error(InvalidChain, {"segment": -1}, lambda: two + three)
        self.assertEqual((two * three).entries, 4)
        self.check_error(InvalidChain, {"segment": -1}, lambda: three * three)

    def test_too_many_levels(self):
        long = Chain((), (), [1] * 8)
        self.check_error(InvalidChain, {"segment": 2}, lambda: long * Chain([2] * 5))
        self.check_error(InvalidChain, {"segment": 0}, lambda: Chain([2] * 5) * Chain([1] * 8, ()))
        self.assertEqual((long * Chain([2] * 4)).segments[2], (1,) * 8 + (2,) * 4)

    def test_the_number_of_segments_is_told_first(self):
        long = Chain((), (), [1] * 8)
        self.check_error(InvalidChain, {"segment": -1}, lambda: long * Chain([2] * 5, (), ()))

    def test_both_sides_stay(self):
        one = Chain((2,), (4,))
        other = Chain((3, 1))
        one + other
        one * other
        self.assertEqual([str(one), str(other)], ["2 | 4", "3 1"])

    def test_other_objects(self):
        for wrong in (((3,),), 2, "3"):
            with self.assertRaises(TypeError):
                Chain((2,)) + wrong
            with self.assertRaises(TypeError):
                Chain((2,)) * wrong


class ReadTest(CaseWithErrors):

    def test_texts_of_chains(self):
        self.assertEqual(Chain.read("2 3 | - | 12"), Chain((2, 3), (), (12,)))
        self.assertEqual(Chain.read("-"), Chain(()))
        self.assertEqual(Chain.read("- | - | - | -"), Chain((), (), (), ()))
        self.assertEqual(Chain.read("1 2 3 4 5 6 7 8 9 10 11 12"), Chain(range(1, 13)))
        for chain in sample_chains():
            self.assertEqual(Chain.read(str(chain)).segments, chain.segments)

    def test_all_short_chains(self):
        for row in all_rows(12, 2):
            for other in ((), (12,)):
                self.assertEqual(Chain.read(str(Chain(row, other))).segments, (row, other))

    def test_other_texts(self):
        texts = [
            "", " ", "|", " | ", "-|-", "- |-", "- | ", " | -", "1 |  | 2", "1 | | 2", "1 || 2",
            "1  2", " 1", "1 ", "1 |", "| 1", "1\n", "\n1", "1\n2", "1\t2", "1 |\n2", "1, 2",
            "0", "13", "-1", "+1", "01", "1 02", "00", "1_2", "1.0", "0x1", "100", "a", "None", "True",
            "--", "- -", "- 1", "1 -", "1 - | 2", "1  | 2", "1 |  2",
            "\u0661", "\u00b2", "1\u00a02", "\u2012", "1" * 4000,
        ]
        for text in texts:
            with self.subTest(text=text[:20]):
                self.check_error(InvalidText, {}, Chain.read, text)

    def test_too_much(self):
        self.check_error(InvalidText, {}, Chain.read, "- | - | - | - | -")
        self.check_error(InvalidText, {}, Chain.read, "1 | 2 | 3 | 4 | 5")
        self.check_error(InvalidText, {}, Chain.read, " ".join(["1"] * 13))
        self.check_error(InvalidText, {}, Chain.read, "1 | " + " ".join(["12"] * 13))
        self.assertEqual(len(Chain.read(" | ".join([" ".join(["12"] * 12)] * 4))), 48)

    def test_kinds_of_methods(self):
        self.assertIsInstance(vars(Chain)["read"], classmethod)
        self.assertIsInstance(vars(Chain)["plain"], staticmethod)
        self.assertEqual(Chain((1,)).read("2"), Chain((2,)))
        self.assertEqual(Chain((1,)).plain(2), Chain((2,)))


class PlainTest(CaseWithErrors):

    def test_one_segment(self):
        self.assertEqual(Chain.plain(4), Chain((4,)))
        self.assertEqual(Chain.plain(2, 3, 2), Chain((2, 3, 2)))
        self.assertEqual(Chain.plain(), Chain(()))
        self.assertEqual(Chain.plain(*([12] * 12)), Chain([12] * 12))

    def test_wrong_capacities(self):
        for wrong in WRONG_CAPACITIES:
            self.check_error(InvalidChain, {"segment": 0}, Chain.plain, 1, wrong)
        self.check_error(InvalidChain, {"segment": 0}, Chain.plain, *([1] * 13))


class BehindTest(CaseWithErrors):

    def test_levels_behind_an_entry(self):
        chain = Chain((2, 3), (), (12, 1))
        self.assertEqual(chain.behind(0), [(0, 0), (0, 1), (2, 0), (2, 1)])
        self.assertEqual(chain.behind(1), [(2, 0), (2, 1)])
        self.assertEqual(chain.behind(2), [(2, 0), (2, 1)])
        self.assertEqual(Chain((2,), ()).behind(1), [])

    def test_the_list_is_new(self):
        chain = Chain((2, 3), (4,))
        chain.behind(0).clear()
        self.assertEqual(chain.behind(0), [(0, 0), (0, 1), (1, 0)])
        self.assertIsNot(chain.behind(1), chain.behind(1))
        self.assertIs(type(chain.behind(0)), list)

    def test_no_such_entry(self):
        for wrong in NOT_ENTRIES:
            with self.subTest(wrong=wrong):
                self.check_error(InvalidEntry, {"entry": wrong}, Chain((2, 3), (), (12,)).behind, wrong)


class WithoutLevelTest(CaseWithErrors):

    def test_without_a_level(self):
        chain = Chain((2, 3, 4), (), (12,))
        self.assertEqual(chain.without_level((0, 0)), Chain((3, 4), (), (12,)))
        self.assertEqual(chain.without_level((0, 1)), Chain((2, 4), (), (12,)))
        self.assertEqual(chain.without_level([0, 2]), Chain((2, 3), (), (12,)))
        self.assertEqual(chain.without_level((2, 0)), Chain((2, 3, 4), (), ()))
        self.assertEqual(str(chain), "2 3 4 | - | 12")

    def test_no_such_level(self):
        chain = Chain((2, 3), (), (12,))
        for wrong in NOT_LEVELS:
            with self.subTest(wrong=wrong):
                self.check_error(NoLevel, {"level": wrong}, chain.without_level, wrong)
        self.check_error(NoLevel, {"level": (0, 2)}, chain.without_level, [0, 2])
        self.check_error(NoLevel, {"level": (0, 0)}, Chain(()).without_level, (0, 0))


class WithoutEntryTest(CaseWithErrors):

    def test_without_an_entry(self):
        chain = Chain((2, 3), (), (12,), (1, 4))
        self.assertEqual(chain.without_entry(1), Chain((2, 3), (12,), (1, 4)))
        self.assertEqual(chain.without_entry(2), Chain((2, 3), (12,), (1, 4)))
        self.assertEqual(chain.without_entry(3), Chain((2, 3), (), (12, 1, 4)))
        self.assertEqual(str(chain), "2 3 | - | 12 | 1 4")

    def test_no_such_entry(self):
        for wrong in NOT_ENTRIES + [0]:
            with self.subTest(wrong=wrong):
                chain = Chain((2, 3), (), (12,))
                self.check_error(InvalidEntry, {"entry": wrong}, chain.without_entry, wrong)
        self.check_error(InvalidEntry, {"entry": 1}, Chain((2,)).without_entry, 1)

    def test_too_many_levels(self):
        chain = Chain([1] * 6, [2] * 6, [3] * 7, ())
        self.assertEqual(chain.without_entry(1), Chain([1] * 6 + [2] * 6, [3] * 7, ()))
        self.check_error(InvalidChain, {"segment": 1}, chain.without_entry, 2)
        self.check_error(InvalidEntry, {"entry": 4}, chain.without_entry, 4)


class WithEntryTest(CaseWithErrors):

    def test_with_an_entry(self):
        chain = Chain((2, 3, 4), (), (12,))
        self.assertEqual(chain.with_entry((0, 0)), Chain((), (2, 3, 4), (), (12,)))
        self.assertEqual(chain.with_entry((0, 1)), Chain((2,), (3, 4), (), (12,)))
        self.assertEqual(chain.with_entry([0, 2]), Chain((2, 3), (4,), (), (12,)))
        self.assertEqual(chain.with_entry((2, 0)), Chain((2, 3, 4), (), (), (12,)))
        self.assertEqual(str(chain), "2 3 4 | - | 12")

    def test_undone_by_without_entry(self):
        for chain in sample_chains():
            for level in chain.behind(0) if chain.entries < 4 else []:
                self.assertEqual(chain.with_entry(level).without_entry(level[0] + 1), chain)

    def test_no_such_level(self):
        chain = Chain((2, 3), (), (12,))
        for wrong in NOT_LEVELS:
            with self.subTest(wrong=wrong):
                self.check_error(NoLevel, {"level": wrong}, chain.with_entry, wrong)

    def test_too_many_segments(self):
        chain = Chain((2, 3), (), (12,), (1,))
        self.check_error(InvalidChain, {"segment": -1}, chain.with_entry, (0, 1))
        self.check_error(NoLevel, {"level": (1, 0)}, chain.with_entry, (1, 0))


if __name__ == "__main__":
    unittest.main()
