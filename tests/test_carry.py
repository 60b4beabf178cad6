"""Points 6 and 14, and the section shelfdoors/carry.py of the interface."""

import copy
import random
import unittest
from itertools import product

from shelfdoors.carry import MAX_ROUNDS, MAX_STEPS, Outcome, carry_out, cyclic_fetches
from shelfdoors.chains import Chain
from shelfdoors.errors import (
    ChainError, CircularPart, InvalidBound, InvalidEntry, InvalidProgram, TooManyRounds, TooManySteps, UnknownPart,
)
from shelfdoors.runs import Run
from tests.support import CaseWithErrors, Reference, all_rows, sample_chains

HUGE = 10 ** 30
# Chains and bodies whose contents recur: (text, body, the earlier round, the later round).
RECURRING = [
    ("2 | 3", (("ask", 1, -1), ("ask", 0, 7)), 4, 5),
    ("2 5", (("sweep", 0, 0, 3),), 1, 2),
    ("3 | 2 | 2", (("ask", 2, 4), ("ask", 0, 2), ("ask", 2, 5), ("ask", 2, 2)), 1, 3),
    ("3 | 2 | 2", (("ask", 1, 1), ("ask", 0, 3), ("ask", 2, 4), ("ask", 1, 2), ("ask", 1, 3), ("ask", 2, 4),
                   ("ask", 0, 1), ("ask", 2, 2)), 2, 6),
    ("3 4", tuple([("ask", 0, item) for item in (6, 3, 1, 6, 7, 6, 3, 6, 4)]), 1, 7),
    ("3 4", tuple([("ask", 0, item) for item in (6, 7, 1, 6, 4, 7, 6, 5)]), 3, 6),
    ("12", (("fresh", 0, 2),), 6, 7),
    ("7", (("fresh", 0, 1),), 7, 8),
]
# Nine rounds until contents recur.
SLOW_BODIES = [
    ("8", (("fresh", 0, 1),)),
    ("12 | 3", (("ask", 0, -1),)),
    ("2 3 4", tuple([("ask", 0, item) for item in (2, 2, 5, 3, 3, 4, 3, 2, 3, 1, 2, 3)])),
]


class Slow:
    """Carries out programs by their definition; rounds that recur are made, too, but not counted as steps."""

    def __init__(self, chain, parts):
        self.reference = Reference(chain)
        self.parts = parts
        self.made = self.missed = self.steps = 0

    def make(self, entry, item, counted):
        if counted:
            if self.steps == 10000:
                raise TooManySteps(10000)
            self.steps += 1
        self.made += 1
        self.missed += self.reference.request(entry, item) is None

    def carry(self, statements, counted):
        for statement in statements:
            if statement[0] == "ask":
                self.make(statement[1], statement[2], counted)
            elif statement[0] == "sweep":
                for item in range(statement[2], statement[3] + 1):
                    self.make(statement[1], item, counted)
            elif statement[0] == "fresh":
                for _ in range(statement[2]):
                    self.make(statement[1], -1, counted)
            elif statement[0] == "use":
                self.carry(self.parts[statement[1]], counted)
            else:
                self.repeat(statement[1], statement[2], counted)

    def repeat(self, many, body, counted):
        met = [self.reference.contents()]
        recurred = False
        for done in range(many):
            if done == 8 and not recurred:
                raise TooManyRounds(8)
            self.carry(body, counted and not recurred)
            recurred = recurred or self.reference.contents() in met
            met.append(self.reference.contents())


def slowly(chain, program, parts):
    """Return the outcome of a program by its definition."""
    slow = Slow(chain, parts)
    slow.carry(program, True)
    return Outcome(slow.made, slow.missed, slow.reference.contents())


def outcome_of_run(chain, requests):
    """Return the outcome of a list of requests."""
    run = Run(chain)
    run.request_all(requests)
    return Outcome(len(run), run.fetches, run.contents)


def state(outcome):
    return [outcome.made, outcome.missed, outcome.final]


class ConstantsTest(unittest.TestCase):

    def test_constants(self):
        self.assertEqual([MAX_ROUNDS, MAX_STEPS], [8, 10000])
        self.assertIs(type(MAX_ROUNDS), int)
        self.assertIs(type(MAX_STEPS), int)


class InterfaceExampleTest(unittest.TestCase):

    def test_example(self):
        chain = Chain((2, 5))
        outcome = carry_out(chain, [("repeat", 10 ** 30, (("sweep", 0, 0, 3),))])
        self.assertEqual([outcome.made, outcome.missed, cyclic_fetches(chain, 0, 6, 10 ** 30)],
                         [4000000000000000000000000000000, 4, 6000000000000000000000000000000])


class OutcomeTest(unittest.TestCase):

    def test_attributes(self):
        outcome = Outcome(7, 3, (((1, -1),), ()))
        self.assertEqual([outcome.made, outcome.missed, outcome.final, outcome.hits], [7, 3, (((1, -1),), ()), 4])
        self.assertEqual(Outcome(made=HUGE, missed=0, final=((),)).hits, HUGE)
        self.assertEqual(Outcome(0, 0, ()).hits, 0)

    def test_equality(self):
        outcome = Outcome(7, 3, (((1, -1),), ()))
        self.assertTrue(outcome == Outcome(7, 3, (((1, -1),), ())))
        self.assertFalse(outcome != Outcome(7, 3, (((1, -1),), ())))
        for other in (Outcome(8, 3, (((1, -1),), ())), Outcome(7, 4, (((1, -1),), ())), Outcome(7, 3, (((1,),), ())),
                      Outcome(7, 3, (((-1, 1),), ())), Outcome(8, 4, (((1, -1),), ()))):
            self.assertFalse(outcome == other)
            self.assertTrue(outcome != other)
        for other in (None, 7, (7, 3, (((1, -1),), ())), [7, 3], "7", Run(Chain((2,)))):
            self.assertFalse(outcome == other)
            self.assertTrue(outcome != other)

    def test_contents_are_copied_as_tuples(self):
        final = [[[1, 2], []], []]
        outcome = Outcome(7, 3, final)
        final[0][0].append(3)
        self.assertEqual(outcome.final, (((1, 2), ()), ()))
        self.assertEqual(outcome, Outcome(7, 3, (((1, 2), ()), ())))


class CarryOutTest(CaseWithErrors):

    def check_program(self, chain, program, parts=None):
        """Check the outcome of a program, also after copies of its statements, against its definition."""
        outcome = carry_out(chain, program, parts=parts)
        self.assertIs(type(outcome), Outcome)
        self.assertEqual(state(outcome), state(slowly(chain, program, parts or {})))

    def check_steps(self, fits, chain, program, **more):
        """Check whether a program can be carried out within the steps."""
        if fits:
            carry_out(chain, program, **more)
        else:
            self.check_error(TooManySteps, {"limit": 10000}, lambda: carry_out(chain, program, **more))

    def test_each_statement(self):
        chain = Chain((2,), (3,))
        for program, requests in [
            ([], []),
            ([("ask", 0, 7)], [(0, 7)]),
            ([("ask", 1, -1), ("ask", 1, 0), ("ask", 0, 0)], [(1, -1), (1, 0), (0, 0)]),
            ([("sweep", 0, 3, 7)], [(0, 3), (0, 4), (0, 5), (0, 6), (0, 7)]),
            ([("sweep", 1, 9999, 9999)], [(1, 9999)]),
            ([("fresh", 0, 0)], []),
            ([("fresh", 1, 3), ("ask", 0, -1)], [(1, -1), (1, -1), (1, -1), (0, -1)]),
            ([("fresh", 1, 50)], [(1, -1)] * 50),
            ([("repeat", 0, [("ask", 0, 7)])], []),
            ([("repeat", 3, [])], []),
            ([("repeat", 3, [("ask", 0, 7), ("ask", 1, 8)])], [(0, 7), (1, 8)] * 3),
            ([("use", "a"), ("ask", 0, 1), ("use", "a")], [(0, 7), (1, -1), (0, 1), (0, 7), (1, -1)]),
            ([("use", "b")], []),
        ]:
            parts = {"a": [("ask", 0, 7), ("ask", 1, -1)], "b": []}
            with self.subTest(program=program):
                expected = state(outcome_of_run(chain, requests))
                self.assertEqual(state(carry_out(chain, program, parts=parts)), expected)
                self.assertEqual(state(carry_out(chain, tuple(program), parts=parts)), expected)

    def test_chains_of_every_kind(self):
        program = [("sweep", 0, 0, 9), ("repeat", 3, [("ask", 0, 8), ("fresh", 0, 2), ("sweep", 0, 3, 9)])]
        for chain in sample_chains():
            self.check_program(chain, program)

    def test_recurring_contents(self):
        for text, body, earlier, later in RECURRING:
            chain = Chain.read(text)
            met = [state(carry_out(chain, body * done))[2] for done in range(4)]
            self.assertEqual(met, [state(slowly(chain, body * done, {}))[2] for done in range(4)])
            # That the examples recur where they claim to.
            contents = [state(slowly(chain, [("use", "a")] * done, {"a": body}))[2] for done in range(later + 1)]
            self.assertEqual(contents[earlier], contents[later])
            self.assertTrue(all(contents[one] != contents[two] for two in range(later) for one in range(two)))
            for many in [*range(0, 30), 99, 100, 101, 102]:
                with self.subTest(text=text, many=many):
                    self.check_program(chain, [("repeat", many, body)])
                    self.check_program(chain, [("repeat", many, body), ("ask", 0, 1)])

    def test_huge_repeats(self):
        for text, body, earlier, later in RECURRING:
            chain = Chain.read(text)
            period = later - earlier
            for many in (HUGE, HUGE - 1, HUGE - 2, HUGE - 3):
                same = earlier + (many - earlier) % period
                first, second = slowly(chain, [("use", "a")] * same, {"a": body}), slowly(
                    chain, [("use", "a")] * (same + period), {"a": body})
                turns = (many - same) // period
                self.assertEqual(
                    state(carry_out(chain, [("repeat", many, body)])),
                    [first.made + turns * (second.made - first.made),
                     first.missed + turns * (second.missed - first.missed), first.final],
                )

    def test_repeats_without_requests(self):
        chain = Chain((2,))
        for body in ([], [("fresh", 0, 0)], [("repeat", 0, [("ask", 0, 7)])], [("repeat", HUGE, [])], [("use", "a")]):
            outcome = carry_out(chain, [("repeat", HUGE, body)], parts={"a": []})
            self.assertEqual(state(outcome), [0, 0, (((),),)])
        # There is nothing to carry out nine times.
        outcome = carry_out(chain, [("repeat", 0, [("repeat", HUGE, [("ask", 0, 7)])]), ("ask", 0, 7)])
        self.assertEqual(state(outcome), [1, 1, (((7,),),)])

    def test_contents_that_are_as_at_the_beginning(self):
        # The repeat begins with the contents behind each of its rounds.
        chain = Chain((3,))
        program = [("sweep", 0, 0, 2), ("repeat", HUGE, [("ask", 0, 2), ("ask", 0, 0)])]
        self.assertEqual(state(carry_out(chain, program)), [3 + 2 * HUGE, 3, (((0, 1, 2),),)])
        # A round of a repeat counts as a round although another repeat has seen these contents before.
        fill = ("repeat", 8, [("fresh", 0, 1)])
        self.assertEqual(state(carry_out(Chain((8,)), [fill, ("repeat", HUGE, [("fresh", 0, 1)])])),
                         [8 + HUGE, 8 + HUGE, (((-1,) * 8,),)])

    def test_8_and_9_rounds(self):
        for text, body in SLOW_BODIES:
            chain = Chain.read(text)
            for many in range(9):
                self.check_program(chain, [("repeat", many, body)])
            for many in (9, 10, 100, HUGE):
                self.check_error(TooManyRounds, {"limit": 8}, carry_out, chain, [("repeat", many, body)])
                program = [("repeat", 1, [("repeat", many, body)])]
                self.check_error(TooManyRounds, {"limit": 8}, carry_out, chain, program)
                self.check_error(TooManyRounds, {"limit": 8},
                                 lambda: carry_out(chain, [("use", "a")], parts={"a": [("repeat", many, body)]}))

    def test_contents_that_recur_behind_round_8(self):
        chain, body = Chain((7,)), [("fresh", 0, 1)]
        for many in (8, 9, 10, HUGE):
            self.assertEqual(state(carry_out(chain, [("repeat", many, body)])), [many, many, (((-1,) * 7,),)])

    def test_each_repeat_counts_its_rounds_anew(self):
        chain = Chain((12,))
        body = [("fresh", 0, 1)]
        # Two repeats of 6 rounds, one behind the other, inside of another, and in a part that is used twice.
        for program in ([("repeat", 6, body), ("repeat", 6, body)], [("repeat", 2, [("repeat", 6, body)])],
                        [("use", "a"), ("use", "a")]):
            outcome = carry_out(chain, program, parts={"a": [("repeat", 6, body)]})
            self.assertEqual(state(outcome), [12, 12, (((-1,) * 12,),)])
        # All contents have been met by the first repeat, but not by the second one.
        program = [("repeat", 8, body), ("repeat", 3, body), ("repeat", HUGE, body)]
        self.assertEqual(carry_out(chain, program).made, 11 + HUGE)
        self.check_error(TooManyRounds, {"limit": 8}, carry_out, chain, [("repeat", 3, body), ("repeat", 9, body)])

    def test_repeats_in_repeats(self):
        chain = Chain.read("2 | 3")
        inner = ("repeat", HUGE, [("sweep", 1, 0, 2), ("ask", 0, 5)])
        outcome = carry_out(chain, [("repeat", HUGE, [inner, ("ask", 1, -1)])])
        self.assertEqual(outcome.made, HUGE * (4 * HUGE + 1))
        deep = carry_out(chain, [("repeat", HUGE, [("repeat", HUGE, [("repeat", HUGE, [("repeat", HUGE, [
            ("ask", 0, 1), ("ask", 0, 2), ("ask", 0, 3), ("ask", 0, 4)])])])])])
        self.assertEqual([deep.made, deep.missed], [4 * HUGE ** 4, 4 * HUGE ** 4])
        for many in range(12):
            self.check_program(chain, [("repeat", many, [("repeat", 5, [("ask", 0, 1), ("ask", 1, 2)]), ("ask", 1, 3),
                                                        ("repeat", many, [("sweep", 0, 2, 4)])])])

    def test_parts_in_repeats(self):
        chain = Chain.read("2 | 3")
        parts = {"a": [("repeat", 4, [("use", "b")]), ("ask", 1, 9)], "b": [("sweep", 0, 1, 3), ("fresh", 1, 1)],
                 "c": []}
        uses = [("use", "a"), ("use", "b"), ("use", "c")]
        for many in range(12):
            self.check_program(chain, [("use", "c"), ("repeat", many, uses)], parts)
        outcome = carry_out(chain, [("repeat", HUGE, [("use", "a")])], parts=parts)
        self.assertEqual(outcome.made, 17 * HUGE)

    def test_random_programs(self):
        generator = random.Random(14)
        texts = ("2", "-", "3 | 2", "1 3", "2 3 5", "2 | - | 4", "3 | 2 | 2", "12", "12", "3 11")
        chains = [Chain.read(text) for text in texts]
        counts = {Outcome: 0, TooManyRounds: 0}
        for _ in range(600):
            chain = generator.choice(chains)
            program, a, b = [random_body(generator, chain, depth, parts) for depth, parts in
                             [(2, ["a", "b"]), (1, ["b"]), (1, [])]]
            parts = {"a": a, "b": b}
            try:
                expected = slowly(chain, program, parts)
            except TooManyRounds:
                self.check_error(TooManyRounds, {"limit": 8}, lambda: carry_out(chain, program, parts=parts))
                counts[TooManyRounds] += 1
            else:
                self.assertEqual(state(carry_out(chain, program, parts=parts)), state(expected))
                counts[Outcome] += 1
        self.assertGreater(min(counts.values()), 5)

    def test_10000_steps(self):
        chain = Chain((2,), (3,))
        whole = ("sweep", 0, 0, 9999)
        self.assertEqual(carry_out(chain, [whole]).missed, 10000)
        self.check_steps(False, chain, [whole, ("ask", 0, 1)])
        self.check_steps(False, chain, [("ask", 0, 1), whole])
        self.check_steps(False, chain, [whole, ("fresh", 1, 1)])
        self.check_steps(False, chain, [whole, ("sweep", 1, 5, 5)])
        self.check_steps(True, chain, [whole, ("fresh", 1, 0), ("repeat", 0, [whole]), ("repeat", HUGE, [])])
        self.check_steps(True, chain, [("repeat", 1, [whole])])
        self.check_steps(False, chain, [("repeat", 1, [whole, ("repeat", 1, [("ask", 0, 1)])])])
        self.check_steps(True, chain, [("sweep", 0, 0, 4999), ("use", "a")], parts={"a": [("sweep", 1, 0, 4999)]})
        self.check_steps(False, chain, [("sweep", 0, 0, 5000), ("use", "a")], parts={"a": [("sweep", 1, 0, 4999)]})

    def test_steps_behind_computed_rounds(self):
        # Two rounds are carried out until contents recur; the others are no steps.
        chain = Chain((2,))
        for many in (2, 3, HUGE):
            self.check_steps(True, chain, [("repeat", many, [("sweep", 0, 0, 4999)])])
            self.check_steps(False, chain, [("repeat", many, [("sweep", 0, 0, 5000)])])
            self.check_steps(True, chain, [("repeat", many, [("sweep", 0, 0, 999)]), ("sweep", 0, 0, 7999)])
            self.check_steps(False, chain, [("repeat", many, [("sweep", 0, 0, 999)]), ("sweep", 0, 0, 8000)])
        # Inside of the outer repeat the first inner one carries out two rounds, and each later one a single one.
        inner = ("repeat", HUGE, [("sweep", 0, 0, 999)])
        self.check_steps(True, chain, [("repeat", HUGE, [inner]), ("sweep", 0, 0, 6999)])
        self.check_steps(False, chain, [("repeat", HUGE, [inner]), ("sweep", 0, 0, 7000)])

    def test_rounds_or_steps_by_what_comes_first(self):
        chain = Chain((12,))
        rounds = ("repeat", 9, [("fresh", 0, 1)])
        program = [("sweep", 0, 0, 9990), ("fresh", 0, 1), rounds]
        self.check_error(TooManyRounds, {"limit": 8}, carry_out, chain, program)
        self.check_error(TooManySteps, {"limit": 10000}, carry_out, chain, [("sweep", 0, 0, 9999), rounds])
        self.check_error(TooManyRounds, {"limit": 8}, carry_out, chain, [rounds, ("sweep", 0, 0, 9999)])
        # Nine rounds of 1250 requests: the eighth one takes step 10000, the ninth is not begun.
        parts = {"a": [("sweep", 1, 0, 1233), ("sweep", 1, 0, 14), ("ask", 0, -1)]}
        chain = Chain((12,), ())
        self.check_error(TooManyRounds, {"limit": 8},
                         lambda: carry_out(chain, [("repeat", 9, [("use", "a")])], parts=parts))
        self.assertEqual(carry_out(chain, [("repeat", 8, [("use", "a")])], parts=parts).made, 10000)
        self.check_error(TooManySteps, {"limit": 10000},
                         lambda: carry_out(chain, [("ask", 1, 1), ("repeat", 9, [("use", "a")])], parts=parts))

    def test_very_many_uses(self):
        chain = Chain((2,))
        parts = {chr(97 + at): [("use", chr(98 + at))] * 2 for at in range(19)}
        self.assertEqual(state(carry_out(chain, [("use", "a")], parts={**parts, "t": []})), [0, 0, (((),),)])
        idle = [("fresh", 0, 0), ("repeat", HUGE, [("fresh", 0, 0)]), ("repeat", 0, [("ask", 0, 1)])]
        self.assertEqual(carry_out(chain, [("use", "a"), ("ask", 0, 1)], parts={**parts, "t": idle}).made, 1)
        self.check_steps(False, chain, [("use", "a")], parts={**parts, "t": [("ask", 0, 1)]})
        self.check_steps(True, chain, [("use", "h")], parts={**parts, "t": [("ask", 0, 1)]})

    def test_parts_nested_as_deep_as_can_be(self):
        chain = Chain((2,))
        parts = {chr(97 + at): in_repeats(4, [("use", chr(98 + at))]) for at in range(19)}
        parts["t"] = in_repeats(4, [("ask", 0, 1)])
        outcome = carry_out(chain, in_repeats(4, [("use", "a")]), parts=parts)
        self.assertEqual(state(outcome), [HUGE ** 84, 1, (((1,),),)])

    def test_errors_of_check_program(self):
        chain = Chain((2,))
        self.check_error(InvalidProgram, {"place": 1}, carry_out, chain, [("sweep", 0, 0, 9999), ("ask", 1, 1)])
        self.check_error(InvalidProgram, {"place": 2}, carry_out, chain,
                         [("sweep", 0, 0, 9999), ("repeat", 9, [("ask", 0, -2)])])
        self.check_error(UnknownPart, {"name": "a"}, carry_out, chain,
                         [("sweep", 0, 0, 9999), ("ask", 0, 1), ("use", "a")])
        self.check_error(UnknownPart, {"name": "a"}, lambda: carry_out(chain, [("use", "a")], parts={"b": []}))
        self.check_error(CircularPart, {"name": "a"},
                         lambda: carry_out(chain, [("repeat", 0, [("use", "a")])], parts={"a": [("use", "a")]}))

    def test_classes_of_the_errors(self):
        self.assertEqual([TooManyRounds.__bases__, TooManySteps.__bases__], [(ChainError,), (ChainError,)])

    def test_arguments_stay_and_the_outcome_is_new(self):
        chain = Chain((2,), (3,))
        program = [("repeat", 20, [("ask", 0, 1), ("use", "a")])]
        parts = {"a": [("repeat", 2, [("fresh", 1, 1)])], "b": []}
        before = copy.deepcopy((program, parts))
        first = carry_out(chain=chain, program=program, parts=parts)
        self.assertEqual((program, parts), before)
        self.assertEqual(chain, Chain((2,), (3,)))
        second = carry_out(chain, program, parts=parts)
        self.assertEqual(first, second)
        first.made = 0
        self.assertEqual(second.made, 60)
        with self.assertRaises(TypeError):
            carry_out(chain, program, parts)


class CyclicTest(CaseWithErrors):

    def test_as_a_run(self):
        rows = all_rows(4, 2)
        chains = [Chain(row) for row in rows]
        for chain in chains + [Chain(one, other) for one, other in product(rows[::3], rows[::4])]:
            for entry, many in product(range(chain.entries), range(7)):
                run = Run(chain)
                for rounds in range(4):
                    self.assertEqual(cyclic_fetches(chain, entry, many, rounds), run.fetches)
                    run.request_all([(entry, item) for item in range(many)])

    def test_chains_of_every_kind(self):
        for chain in sample_chains():
            for entry, many in product(range(chain.entries), (0, 1, 2, 11, 12, 13, 40)):
                run = Run(chain)
                run.request_all([(entry, item) for item in range(many)] * 5)
                self.assertEqual(cyclic_fetches(chain, entry, many, 5), run.fetches)

    def test_large_numbers(self):
        chain = Chain((2, 12), (5,), ())
        self.assertEqual(cyclic_fetches(chain, 0, 12, HUGE), 12)
        self.assertEqual(cyclic_fetches(chain, 1, 12, HUGE), 12 * HUGE)
        self.assertEqual(cyclic_fetches(chain, 0, 13, HUGE), 13 * HUGE)
        self.assertEqual(cyclic_fetches(chain, 1, 5, HUGE), 5)
        self.assertEqual(cyclic_fetches(chain, 2, 1, HUGE), HUGE)
        self.assertEqual(cyclic_fetches(chain, 0, 10000, HUGE), 10000 * HUGE)
        self.assertEqual(cyclic_fetches(chain, 0, 10000, 1), 10000)

    def test_numbers_of_0(self):
        for chain in sample_chains():
            for rounds in (0, 1, 5, HUGE):
                self.assertEqual(cyclic_fetches(chain, 0, 0, rounds), 0)
            for many in (0, 1, 12, 13, 10000):
                self.assertEqual(cyclic_fetches(chain, 0, many, 0), 0)

    def test_invalid_entry(self):
        chain = Chain((2,), (3,))
        for entry in (2, 4, -1, True, False, None, "0", HUGE):
            self.check_error(InvalidEntry, {"entry": entry}, cyclic_fetches, chain, entry, 3, 3)

    def test_invalid_bounds(self):
        chain = Chain((2,), (3,))
        for many in (-1, 10001, True, False, None, "3", HUGE):
            self.check_error(InvalidBound, {"bound": many}, cyclic_fetches, chain, 0, many, 3)
        for rounds in (-1, HUGE + 1, 10 ** 39, True, False, None, "3"):
            self.check_error(InvalidBound, {"bound": rounds}, cyclic_fetches, chain, 0, 3, rounds)

    def test_order_of_the_errors(self):
        chain = Chain((2,), (3,))
        self.check_error(InvalidEntry, {"entry": 2}, cyclic_fetches, chain, 2, -1, -2)
        self.check_error(InvalidBound, {"bound": -1}, cyclic_fetches, chain, 1, -1, -2)
        self.check_error(InvalidBound, {"bound": -2}, cyclic_fetches, chain, 1, 0, -2)
        self.assertEqual([InvalidEntry.__bases__, InvalidBound.__bases__], [(ChainError,), (ChainError,)])

    def test_arguments_by_name(self):
        chain = Chain((2,), (3,))
        self.assertEqual(cyclic_fetches(chain=chain, entry=1, many=4, rounds=2), 8)
        self.assertEqual(chain, Chain((2,), (3,)))


def in_repeats(depth, body):
    """Return a body in so many repeats of 10 ** 30 rounds."""
    for _ in range(depth):
        body = [("repeat", HUGE, body)]
    return body


def random_body(generator, chain, depth, parts):
    """Return statements for a chain, with repeats nested so deep at most."""
    statements = []
    for _ in range(generator.randint(0, 4)):
        entry = generator.randrange(chain.entries)
        first = generator.randint(0, 3)
        choices = [
            ("ask", entry, generator.randint(-1, 5)), ("ask", entry, generator.randint(0, 5)),
            ("sweep", entry, first, generator.randint(first, 5)), ("fresh", entry, generator.choice([0, 1, 1, 2, 5])),
        ]
        if parts:
            choices.append(("use", generator.choice(parts)))
        if depth > 0:
            choices += [("repeat", generator.choice([0, 1, 3, 8, 9, 9, 13, 20]),
                         random_body(generator, chain, depth - 1, parts))] * 2
        statements.append(generator.choice(choices))
    return statements


if __name__ == "__main__":
    unittest.main()
