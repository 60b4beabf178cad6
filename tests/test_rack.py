"""Points 17 and 18, and the section shelfdoors/rack.py of the interface."""

import copy
import random
import unittest

from shelfdoors.chains import Chain
from shelfdoors.errors import (
    ChainError, InvalidBound, InvalidCommand, InvalidEntry, InvalidItem, InvalidName, InvalidText, NameTaken, NotFound,
    NothingLeft, RackFull, UnknownName,
)
from shelfdoors.normal import is_covered
from shelfdoors.rack import Rack
from shelfdoors.runs import Run, TracedRun
from tests.support import CaseWithErrors

NOT_NAMES = ["", "abcdefghi", "A", "aB", "a1", "a b", " a", "a\n", "-", "\u00e4", 5, None, True, ("a",), ["a"]]
NOT_LIMITS = [0, 13, -1, True, False, None, "6", 10 ** 30]


def state(rack):
    """Return all that the methods of a rack tell of it."""
    runs = [(name, str(rack.run_of(name).chain), rack.run_of(name).contents, rack.fetches_of(name))
            for name in rack.names()]
    return [rack.limit, len(rack), rack.total, rack.history(), runs]


def filled(**more):
    """Return a rack with runs a and b and three steps."""
    rack = Rack(**more)
    rack.apply_all(("open", "b", "1 2 | 3"), ("open", "a", "3 2 3 | 1 1"))
    rack.apply_all(("ask", "a", 0, 7), ("ask", "a", 1, 8), ("ask", "b", 0, 7), ("ask", "b", 0, 8))
    rack.apply(("ask", "b", 0, 7))
    return rack


class RackCase(CaseWithErrors):

    def check_failure(self, error_class, data, rack, *commands):
        """Check that commands raise an error at once, and that nothing is applied then."""
        before = state(rack)
        self.check_error(error_class, data, rack.apply_all, *commands)
        self.assertEqual(state(rack), before)
        if len(commands) == 1:
            self.check_error(error_class, data, rack.apply, *commands)
            self.assertEqual(state(rack), before)

    def check_everywhere(self, error_class, data, rack, command):
        """Check that a command raises an error alone, and at the first, a middle and the last place."""
        good = [("ask", "a", 0, 1), ("ask", "b", 0, 2), ("trim", "a"), ("trim", "b")]
        self.check_failure(error_class, data, rack, command)
        for place in (0, 1, 3, 4):
            self.check_failure(error_class, data, rack, *good[:place], command, *good[place:])


class CommandTest(RackCase):

    def test_open(self):
        rack = Rack()
        self.assertIsNone(rack.apply(("open", "a", "2 3 | - | 12")))
        self.assertIsNone(rack.apply(("open", "abcdefgh", "1")))
        self.assertEqual(rack.names(), ["a", "abcdefgh"])
        self.assertEqual(rack.run_of("a"), Run(Chain.read("2 3 | - | 12")))
        self.assertEqual([rack.fetches_of("a"), rack.total, len(rack)], [0, 0, 2])

    def test_errors_of_open(self):
        rack = filled()
        for name in NOT_NAMES:
            self.check_failure(InvalidName, {"name": name}, rack, ("open", name, "2"))
        self.check_everywhere(InvalidName, {"name": "A"}, rack, ("open", "A", "0"))
        self.check_everywhere(NameTaken, {"name": "a"}, rack, ("open", "a", "0"))
        for text in ("", "0", "13", "2  3", "2 |", "2|3", "02", "x", "- -", "1 | 1 | 1 | 1 | 1", "2 "):
            self.check_failure(InvalidText, {}, rack, ("open", "c", text))
        self.check_everywhere(InvalidText, {}, rack, ("open", "c", "0"))
        rack.set_limit(2)
        self.check_everywhere(RackFull, {"limit": 2}, rack, ("open", "c", "2"))
        self.check_everywhere(InvalidText, {}, rack, ("open", "c", "0"))
        self.check_everywhere(NameTaken, {"name": "b"}, rack, ("open", "b", "2"))
        self.check_everywhere(InvalidName, {"name": "B"}, rack, ("open", "B", "2"))

    def test_the_rack_is_full_only_while_it_is(self):
        rack = Rack(limit=2)
        rack.apply_all(("open", "a", "2"), ("open", "b", "2"))
        self.check_failure(RackFull, {"limit": 2}, rack, ("open", "c", "2"), ("close", "a"))
        rack.apply_all(("close", "a"), ("open", "c", "2"))
        self.assertEqual(rack.names(), ["b", "c"])
        self.check_failure(RackFull, {"limit": 2}, rack, ("close", "b"), ("open", "d", "1"), ("open", "e", "1"))

    def test_close(self):
        rack = filled()
        self.assertIsNone(rack.apply(("close", "a")))
        self.assertEqual([rack.names(), rack.total], [["b"], 2])
        self.check_failure(UnknownName, {"name": "a"}, rack, ("close", "a"))
        self.check_error(UnknownName, {"name": "a"}, rack.run_of, "a")
        self.check_error(UnknownName, {"name": "a"}, rack.fetches_of, "a")

    def test_close_and_open_of_the_same_name(self):
        rack = filled()
        rack.apply(("close", "a"))
        rack.apply(("open", "a", "5"))
        self.assertEqual([rack.fetches_of("a"), rack.total, rack.run_of("a")], [0, 2, Run(Chain.plain(5))])
        rack.apply_all(("ask", "a", 0, 7), ("close", "a"), ("open", "a", "6"), ("ask", "a", 0, -1))
        self.assertEqual([rack.fetches_of("a"), str(rack.run_of("a").chain)], [1, "6"])
        rack.undo()
        rack.undo()
        rack.undo()
        self.assertEqual([rack.fetches_of("a"), str(rack.run_of("a").chain)], [2, "3 2 3 | 1 1"])

    def test_errors_of_close(self):
        for name in ("c", "aa", "A", "", 5, None, ("a",), ["a"]):
            self.check_failure(UnknownName, {"name": name}, filled(), ("close", name))
        self.check_everywhere(UnknownName, {"name": "c"}, filled(), ("close", "c"))

    def test_ask(self):
        rack = Rack()
        rack.apply(("open", "a", "1 | 2"))
        self.assertEqual([rack.apply(("ask", "a", 0, 7)), rack.apply(("ask", "a", 0, 7))], [None, (0, 0)])
        self.assertEqual(rack.apply_all(("ask", "a", 1, 8), ("ask", "a", 1, 7), ("ask", "a", 0, -1),
                                        ("ask", "a", 0, 7)),
                         [None, (1, 0), None, None])
        self.assertEqual([rack.fetches_of("a"), rack.run_of("a").contents], [4, (((7,),), ((-1, 7),))])

    def test_errors_of_ask(self):
        rack = filled()
        for entry, item in [(0, 7), (9, 7), (0, -2), (None, None)]:
            self.check_failure(UnknownName, {"name": "c"}, rack, ("ask", "c", entry, item))
        self.check_everywhere(UnknownName, {"name": "c"}, rack, ("ask", "c", True, -2))
        for entry in (2, -1, True, False, None, "0"):
            self.check_failure(InvalidEntry, {"entry": entry}, rack, ("ask", "a", entry, -2))
        self.check_everywhere(InvalidEntry, {"entry": 2}, rack, ("ask", "a", 2, 10000))
        for item in (-2, 10000, True, False, None, "7"):
            self.check_failure(InvalidItem, {"item": item}, rack, ("ask", "a", 1, item))
        self.check_everywhere(InvalidItem, {"item": 10000}, rack, ("ask", "a", 1, 10000))

    def test_trim(self):
        rack = filled()
        before = rack.run_of("a").contents
        self.assertEqual(rack.apply(("trim", "a")), 3)
        self.assertEqual(str(rack.run_of("a").chain), "3 | 1")
        self.assertEqual(rack.run_of("a").contents, ((before[0][0],), (before[1][0],)))
        # An idle level is not covered.
        self.assertEqual([rack.apply(("trim", "b")), str(rack.run_of("b").chain)], [0, "1 2 | 3"])
        self.assertEqual([rack.apply(("trim", "a")), rack.fetches_of("a"), rack.total], [0, 2, 4])

    def test_trim_of_many_levels(self):
        rack = Rack()
        text = "2 1 5 5 3 6 6 | - | 1 1 1 2 1 | 12 11 10"
        rack.apply_all(("open", "a", text), *[("ask", "a", entry, item) for item in range(9) for entry in (0, 2, 3)])
        run = rack.run_of("a")
        kept = [level for level in run.chain.behind(0) if not is_covered(run.chain, level)]
        self.assertEqual(rack.apply(("trim", "a")), len(run.chain) - len(kept))
        trimmed = rack.run_of("a")
        self.assertEqual(str(trimmed.chain), "2 5 6 | - | 1 2 | 12")
        self.assertEqual([trimmed.contents[segment][at] for segment, at in trimmed.chain.behind(0)],
                         [run.contents[segment][at] for segment, at in kept])

    def test_errors_of_trim(self):
        for name in ("c", "A", "", None, ["a"]):
            self.check_failure(UnknownName, {"name": name}, filled(), ("trim", name))
        self.check_everywhere(UnknownName, {"name": "c"}, filled(), ("trim", "c"))

    def test_rename(self):
        rack = filled()
        run = rack.run_of("b")
        self.assertIsNone(rack.apply(("rename", "b", "abcdefgh")))
        self.assertEqual([rack.names(), rack.run_of("abcdefgh"), rack.fetches_of("abcdefgh"), rack.total],
                         [["a", "abcdefgh"], run, 2, 4])
        self.check_failure(UnknownName, {"name": "b"}, rack, ("ask", "b", 0, 1))
        rack.apply_all(("rename", "a", "b"), ("rename", "abcdefgh", "a"), ("ask", "a", 0, 9))
        self.assertEqual([rack.names(), rack.fetches_of("a"), rack.fetches_of("b")], [["a", "b"], 3, 2])

    def test_errors_of_rename(self):
        rack = filled()
        self.check_everywhere(UnknownName, {"name": "c"}, rack, ("rename", "c", "A"))
        self.check_failure(UnknownName, {"name": "c"}, rack, ("rename", "c", "a"))
        for name in NOT_NAMES:
            self.check_failure(InvalidName, {"name": name}, rack, ("rename", "a", name))
        self.check_everywhere(InvalidName, {"name": "A"}, rack, ("rename", "a", "A"))
        self.check_everywhere(NameTaken, {"name": "b"}, rack, ("rename", "a", "b"))
        self.check_everywhere(NameTaken, {"name": "a"}, rack, ("rename", "a", "a"))

    def test_invalid_commands(self):
        rack = filled()
        for command, word in [
            ((), None), (("move", "a"), "move"), (("", "a"), ""), (("Open", "c", "2"), "Open"),
            (("asks", "a", 0, 1), "asks"),
            (("open",), "open"), (("open", "c"), "open"), (("open", "c", "2", "3"), "open"), (("close",), "close"),
            (("close", "a", "b"), "close"), (("ask", "a", 0), "ask"), (("ask", "a", 0, 1, 2), "ask"),
            (("trim",), "trim"),
            (("trim", "a", "b"), "trim"), (("rename", "a"), "rename"), (("rename", "a", "c", "d"), "rename"),
            (("undo",), "undo"), (("names",), "names"), ((5, "a"), 5), ((["close"], "a"), ["close"]),
        ]:
            self.check_everywhere(InvalidCommand, {"word": word}, rack, command)

    def test_all_commands_are_checked_before_the_first_one_is_applied(self):
        rack = filled()
        self.check_failure(InvalidCommand, {"word": "move"}, rack, ("close", "z"), ("ask", "a", 9, 9), ("move", "a"),
                           ())
        self.check_failure(InvalidCommand, {"word": None}, rack, ("close", "z"), (), ("move", "a"))

    def test_the_first_error_is_told(self):
        rack = filled()
        self.check_failure(UnknownName, {"name": "z"}, rack, ("close", "z"), ("open", "A", "0"))
        self.check_failure(UnknownName, {"name": "a"}, rack, ("close", "a"), ("ask", "a", 9, 9), ("close", "z"))
        self.check_failure(NameTaken, {"name": "c"}, rack, ("open", "c", "2"), ("open", "c", "0"))

    def test_commands_see_what_those_before_have_done(self):
        rack = Rack()
        results = rack.apply_all(
            ("open", "a", "2 1"), ("ask", "a", 0, 7), ("ask", "a", 0, 7), ("trim", "a"), ("rename", "a", "b"),
            ("open", "a", "3"), ("ask", "b", 0, 7), ("ask", "a", 0, 7), ("close", "b"),
        )
        self.assertEqual(results, [None, None, (0, 0), 1, None, None, (0, 0), None, None])
        self.assertEqual(state(rack), [6, 1, 1, (1, 0), [("a", "3", (((7,),),), 1)]])

    def test_classes_of_the_errors(self):
        for error_class in (InvalidName, NameTaken, InvalidText, RackFull, InvalidCommand, NothingLeft, InvalidBound):
            self.assertEqual(error_class.__bases__, (ChainError,))
        self.assertEqual(UnknownName.__bases__, (NotFound,))


class StepTest(RackCase):

    def test_each_call_is_a_step(self):
        rack = filled()
        self.assertEqual(rack.history(), (3, 0))
        self.assertIsNone(rack.undo())
        self.assertEqual([rack.history(), rack.run_of("b").contents, rack.total],
                         [(2, 1), (((8,), (7, 8)), ((7, 8),)), 4])
        rack.undo()
        self.assertEqual([rack.history(), rack.run_of("b").contents, rack.total],
                         [(1, 2), (((), ()), ((),)), 0])
        rack.undo()
        self.assertEqual([rack.history(), rack.names()], [(0, 3), []])

    def test_undo_and_redo_until_nothing_is_left(self):
        rack = filled()
        rack.apply_all(("trim", "a"), ("rename", "a", "c"))
        rack.apply(("close", "b"))
        states = [state(rack)]
        while rack.history()[0] > 0:
            rack.undo()
            states.append(state(rack))
        self.assertEqual(len(states), 6)
        before = state(rack)
        self.check_error(NothingLeft, {}, rack.undo)
        self.assertEqual(state(rack), before)
        for expected in states[-2::-1]:
            self.assertIsNone(rack.redo())
            self.assertEqual(state(rack), expected)
        self.check_error(NothingLeft, {}, rack.redo)
        self.assertEqual(state(rack), states[0])

    def test_nothing_is_left_of_an_empty_rack(self):
        self.check_error(NothingLeft, {}, Rack().undo)
        self.check_error(NothingLeft, {}, Rack().redo)
        self.assertEqual(Rack().history(), (0, 0))

    def test_a_step_without_commands(self):
        rack = Rack()
        self.assertEqual([rack.apply_all(), rack.apply_all(), rack.history()], [[], [], (2, 0)])
        rack.undo()
        self.assertEqual(rack.history(), (1, 1))
        rack.apply_all()
        self.assertEqual(rack.history(), (2, 0))

    def test_a_new_step_ends_redoing(self):
        rack = filled()
        rack.undo()
        rack.undo()
        rack.apply(("ask", "a", 0, 3))
        self.assertEqual(rack.history(), (2, 0))
        self.check_error(NothingLeft, {}, rack.redo)
        self.assertEqual(rack.run_of("a").contents, (((3,), (3,), (3,)), ((3,), (3,))))
        rack.undo()
        self.assertEqual([rack.history(), rack.total], [(1, 1), 0])

    def test_an_error_is_no_step(self):
        rack = filled()
        rack.undo()
        self.check_failure(UnknownName, {"name": "z"}, rack, ("ask", "a", 0, 1), ("close", "z"))
        self.check_failure(InvalidCommand, {"word": None}, rack, ())
        rack.redo()
        self.assertEqual(rack.history(), (3, 0))

    def test_a_limit_that_has_become_smaller(self):
        rack = Rack(limit=3)
        rack.apply_all(("open", "a", "2"), ("open", "b", "2"), ("open", "c", "2"))
        rack.apply(("close", "b"))
        rack.set_limit(2)
        before = state(rack)
        self.check_error(RackFull, {"limit": 2}, rack.undo)
        self.assertEqual(state(rack), before)
        rack.limit = 3
        rack.undo()
        self.assertEqual([rack.names(), rack.history(), rack.limit], [["a", "b", "c"], (1, 1), 3])
        rack.undo()
        rack.limit = 1
        before = state(rack)
        self.check_error(RackFull, {"limit": 1}, rack.redo)
        self.assertEqual(state(rack), before)
        rack.limit = 3
        rack.redo()
        self.assertEqual([rack.names(), rack.history()], [["a", "b", "c"], (1, 1)])

    def test_a_limit_that_is_just_large_enough(self):
        rack = Rack(limit=3)
        rack.apply_all(("open", "a", "2"), ("open", "b", "2"))
        rack.apply_all(("close", "a"), ("close", "b"))
        rack.limit = 2
        rack.undo()
        self.assertEqual([rack.names(), rack.limit], [["a", "b"], 2])
        rack.undo()
        rack.redo()
        self.assertEqual(rack.names(), ["a", "b"])

    def test_nothing_left_comes_before_a_full_rack(self):
        rack = Rack(limit=2)
        rack.apply_all(("open", "a", "2"), ("open", "b", "2"))
        self.check_error(NothingLeft, {}, rack.redo)

    def test_a_change_of_the_limit_is_no_step(self):
        rack = filled()
        rack.undo()
        rack.limit = 4
        self.assertEqual([rack.history(), rack.limit], [(2, 1), 4])
        rack.redo()
        rack.undo()
        rack.undo()
        self.assertEqual([rack.history(), rack.limit], [(1, 2), 4])

    def test_fetches_and_total(self):
        rack = filled()
        told = []
        for command in (("ask", "a", 1, 1), ("ask", "a", 1, 1), ("trim", "a"), ("rename", "a", "c"),
                        ("ask", "c", 0, 5)):
            rack.apply(command)
            told.append(([rack.fetches_of(name) for name in rack.names()], rack.total))
        self.assertEqual(told, [([3, 2], 5), ([3, 2], 5), ([3, 2], 5), ([2, 3], 5), ([2, 4], 6)])
        for expected in told[-2::-1]:
            rack.undo()
            self.assertEqual(([rack.fetches_of(name) for name in rack.names()], rack.total), expected)
        for expected in told[1:]:
            rack.redo()
            self.assertEqual(([rack.fetches_of(name) for name in rack.names()], rack.total), expected)

    def test_random_steps(self):
        generator = random.Random(17)
        names = ["a", "b", "c", "dd"]
        for _ in range(40):
            rack = Rack(limit=generator.randint(1, 4))
            states, at = [state(rack)[1:3] + state(rack)[4:]], 0
            for _ in range(30):
                kind = generator.randint(0, 9)
                if kind == 0 and at > 0:
                    rack.undo()
                    at -= 1
                elif kind == 1 and at < len(states) - 1:
                    rack.redo()
                    at += 1
                else:
                    commands = [random_command(generator, names) for _ in range(generator.randint(0, 2))]
                    try:
                        results = rack.apply_all(*commands)
                    except (ChainError, NotFound):
                        pass
                    else:
                        self.assertEqual(len(results), len(commands))
                        at += 1
                        states[at:] = [state(rack)[1:3] + state(rack)[4:]]
                self.assertEqual(state(rack)[1:3] + state(rack)[4:], states[at])
                self.assertEqual(rack.history(), (at, len(states) - 1 - at))

    def test_asks_are_those_of_a_run(self):
        generator = random.Random(18)
        for text in ("2 3 | - | 4", "1", "3 1 2 | 2 2"):
            rack, run = Rack(), Run(Chain.read(text))
            rack.apply(("open", "a", text))
            for _ in range(100):
                entry, item = generator.randrange(run.chain.entries), generator.randint(-1, 6)
                self.assertEqual(rack.apply(("ask", "a", entry, item)), run.request(entry, item))
            self.assertEqual([rack.run_of("a"), rack.fetches_of("a")], [run, run.fetches])


class LimitTest(RackCase):

    def test_limits(self):
        self.assertEqual(Rack().limit, 6)
        for limit in (1, 2, 11, 12):
            rack = Rack(limit=limit)
            self.assertEqual(rack.limit, limit)
            for at in range(limit):
                rack.apply(("open", chr(97 + at), "2"))
            self.check_failure(RackFull, {"limit": limit}, rack, ("open", "z", "2"))
            rack = Rack()
            rack.limit = limit
            self.assertEqual(rack.limit, limit)
            self.assertIsNone(rack.set_limit(limit=13 - limit))
            self.assertEqual(rack.limit, 13 - limit)

    def test_invalid_limits(self):
        for limit in NOT_LIMITS:
            self.check_error(InvalidBound, {"bound": limit}, lambda: Rack(limit=limit))
            for rack in (Rack(limit=5), filled(limit=5)):
                before = state(rack)
                self.check_error(InvalidBound, {"bound": limit}, rack.set_limit, limit)
                self.check_error(InvalidBound, {"bound": limit}, lambda: setattr(rack, "limit", limit))
                self.assertEqual(state(rack), before)

    def test_a_limit_that_is_too_small_for_the_runs(self):
        rack = filled()
        before = state(rack)
        self.check_error(RackFull, {"limit": 1}, rack.set_limit, 1)
        self.check_error(RackFull, {"limit": 1}, lambda: setattr(rack, "limit", 1))
        self.check_error(InvalidBound, {"bound": 0}, rack.set_limit, 0)
        self.assertEqual(state(rack), before)
        rack.limit = 2
        self.assertEqual(rack.limit, 2)
        self.check_failure(RackFull, {"limit": 2}, rack, ("open", "c", "2"))

    def test_the_limit_is_a_keyword(self):
        with self.assertRaises(TypeError):
            Rack(6)


class ObjectTest(RackCase):

    def test_length_repr_and_names(self):
        rack = Rack()
        self.assertEqual([len(rack), repr(rack), rack.names(), rack.total], [0, "Rack(0 runs)", [], 0])
        rack.apply_all(("open", "zz", "2"))
        self.assertEqual([len(rack), repr(rack), rack.names()], [1, "Rack(1 runs)", ["zz"]])
        rack.apply_all(("open", "b", "2"), ("open", "aa", "2"), ("open", "a", "2"))
        self.assertEqual([len(rack), repr(rack), rack.names()], [4, "Rack(4 runs)", ["a", "aa", "b", "zz"]])

    def test_equality(self):
        self.assertTrue(Rack() == Rack())
        self.assertTrue(filled() == filled())
        self.assertFalse(filled() != filled())
        self.assertFalse(Rack() == Rack(limit=5))
        other = filled()
        other.limit = 5
        self.assertFalse(filled() == other)
        for command in (("close", "a"), ("open", "c", "2"), ("rename", "a", "c"), ("ask", "a", 0, 1), ("trim", "a")):
            other = filled()
            other.apply(command)
            self.assertFalse(filled() == other)
            self.assertTrue(filled() != other)
            other.undo()
            self.assertTrue(filled() == other)
        for other in (None, 2, "Rack(2 runs)", ["a", "b"], {"a": 1}, Run(Chain((2,)))):
            self.assertFalse(filled() == other)
            self.assertTrue(filled() != other)

    def test_equal_racks_with_other_fetches_and_steps(self):
        one, other = Rack(), Rack()
        one.apply_all(("open", "a", "1"), ("ask", "a", 0, 7))
        other.apply_all(("open", "a", "1"), ("ask", "a", 0, 8))
        self.assertFalse(one == other)
        other.apply(("ask", "a", 0, 7))
        self.assertTrue(one == other)
        self.assertEqual([one.total, other.total, one.history(), other.history()], [1, 2, (1, 0), (2, 0)])
        # Names count, whatever the order in which they were opened.
        one.apply(("open", "b", "2"))
        other.apply_all(("rename", "a", "c"), ("open", "b", "2"), ("rename", "c", "a"))
        self.assertTrue(one == other)

    def test_run_of(self):
        rack = filled()
        run = rack.run_of("b")
        self.assertIs(type(run), Run)
        self.assertNotIsInstance(run, TracedRun)
        self.assertEqual([repr(run), run.log(), run.fetches, run.history()],
                         ["Run(1 2 | 3, 0 requests)", [], 0, (0, 0)])
        before = state(rack)
        run.request_all([(0, 1), (0, 2), (1, 3)])
        self.assertEqual(state(rack), before)
        rack.apply(("ask", "b", 0, 55))
        self.assertEqual(run.holders(55), [])
        self.assertEqual(len(rack.run_of("b")), 0)

    def test_unknown_names(self):
        for name in ("c", "A", "", "ab", None, 5, ["a"]):
            self.check_error(UnknownName, {"name": name}, filled().run_of, name)
            self.check_error(UnknownName, {"name": name}, filled().fetches_of, name)

    def test_clones_go_on_by_themselves(self):
        rack = filled(limit=4)
        rack.undo()
        clone = rack.clone()
        self.assertIs(type(clone), Rack)
        self.assertTrue(clone == rack)
        self.assertEqual(state(clone), state(rack))
        before = state(rack)
        clone.redo()
        clone.apply_all(("close", "a"), ("ask", "b", 0, 99))
        clone.limit = 1
        clone.set_limit(9)
        self.assertEqual(state(rack), before)
        before = state(clone)
        rack.undo()
        rack.apply(("rename", "a", "c"))
        rack.limit = 12
        self.assertEqual(state(clone), before)
        clone.undo()
        clone.undo()
        self.assertEqual([clone.history(), clone.names(), clone.total], [(2, 2), ["a", "b"], 4])

    def test_lists_are_new(self):
        rack = filled()
        rack.names().append("z")
        results = rack.apply_all(("ask", "a", 0, 1))
        results.append("more")
        self.assertEqual([rack.names(), rack.apply_all(("ask", "a", 0, 1))], [["a", "b"], [(0, 0)]])

    def test_arguments_stay(self):
        rack = Rack()
        commands = [("open", "a", "2"), ("ask", "a", 0, 7)]
        before = copy.deepcopy(commands)
        rack.apply_all(*commands)
        self.assertEqual(commands, before)

    def test_arguments_by_name(self):
        rack = Rack(limit=2)
        rack.apply(command=("open", "a", "2"))
        self.assertEqual([rack.run_of(name="a"), rack.fetches_of(name="a")], [Run(Chain((2,))), 0])


def random_command(generator, names):
    """Return a command that often can be applied."""
    name = generator.choice(names)
    return generator.choice([
        ("open", name, generator.choice(["2 | 1", "3 3", "1", "-"])), ("close", name), ("trim", name),
        ("rename", name, generator.choice(names)), ("ask", name, 0, generator.randint(-1, 3)),
        ("ask", name, generator.randint(0, 1), generator.randint(-1, 3)), ("open", name, "2 5 4"),
    ])


if __name__ == "__main__":
    unittest.main()
