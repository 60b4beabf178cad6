"""Points 5 to 7, 8 and 10 as far as runs go, and the section shelfdoors/runs.py of the interface."""

import copy
import random
import unittest

from shelfdoors.chains import Chain
from shelfdoors.errors import (
    ChainError, InvalidContents, InvalidEntry, InvalidItem, NoLevel, NotFound, NotRemovable, NothingLeft,
)
from shelfdoors.normal import is_covered, normal_chain
from shelfdoors.runs import Run, TracedRun
from tests.support import CaseWithErrors, Reference, no_items, random_requests, sample_chains

NOT_ITEMS = [-2, 10000, 10 ** 30, True, False, None, "7"]


def state(run):
    """Return all that can be seen of a run."""
    return (run.chain, run.contents, run.log(), len(run), run.fetches, run.hits, run.history(), repr(run))


def asked(chain, *requests):
    """Return a run of a chain behind these requests, each made by itself."""
    run = Run(chain)
    for entry, item in requests:
        run.request(entry, item)
    return run


class RequestTest(CaseWithErrors):

    def test_example_of_the_interface(self):
        run = Run(Chain((2,), (3,)))
        self.assertEqual(run.request_all([(0, 7), (0, 8), (1, 9), (0, 9), (0, 7)]), [None, None, None, (1, 0), (1, 0)])
        self.assertEqual(
            [run.log()[3], run.contents, run.fetches, run.holders(7)],
            [(0, 9, (1, 0)), (((9, 7),), ((7, 8, 9),)), 3, [(0, 0), (1, 0)]],
        )

    def test_a_run_starts_empty(self):
        for chain in sample_chains():
            run = Run(chain)
            self.assertEqual(run.contents, no_items(chain))
            self.assertEqual((run.chain, run.log(), len(run), run.fetches, run.hits, run.history()),
                             (chain, [], 0, 0, 0, (0, 0)))

    def test_what_a_request_inserts(self):
        run = Run(Chain((2, 3), (), (1,)))
        self.assertIsNone(run.request(0, 5))
        self.assertEqual(run.contents, (((5,), (5,)), (), ((5,),)))
        self.assertIsNone(run.request(2, 6))
        self.assertEqual(run.contents, (((5,), (5,)), (), ((6,),)))
        self.assertEqual(run.request(1, 6), (2, 0))
        self.assertEqual(run.request(0, 6), (2, 0))
        self.assertEqual(run.contents, (((5, 6), (5, 6)), (), ((6,),)))

    def test_a_hit_changes_neither_its_level_nor_later_ones(self):
        run = asked(Chain((3, 4)), (0, 1), (0, 2), (0, 3))
        before = run.contents
        self.assertEqual(run.request(0, 1), (0, 0))
        self.assertEqual(run.contents, before)
        run.request(0, 4)
        self.assertEqual(run.contents, (((2, 3, 4), (1, 2, 3, 4)),))
        self.assertEqual(run.request(0, 1), (0, 1))
        self.assertEqual(run.contents, (((3, 4, 1), (1, 2, 3, 4)),))

    def test_a_full_level_evicts_what_it_inserted_first(self):
        for capacity in range(1, 13):
            run = asked(Chain((capacity,)), *[(0, item) for item in range(capacity)])
            self.assertEqual(run.contents, ((tuple(range(capacity)),),))
            self.assertEqual(run.request(0, 0), (0, 0))
            self.assertIsNone(run.request(0, capacity))
            self.assertEqual(run.contents, ((tuple(range(1, capacity + 1)),),))
            self.assertIsNone(run.request(0, 0))
            self.assertEqual(run.contents[0][0][-1], 0)

    def test_chains_without_levels(self):
        run = asked(Chain((), ()), (0, 7), (1, 7), (0, -1), (0, 7))
        self.assertEqual([run.contents, run.fetches, run.hits], [((), ()), 4, 0])

    def test_an_entry_behind_all_levels(self):
        run = asked(Chain((2,), ()), (1, 7), (0, 7), (1, 7), (0, 7))
        self.assertEqual([row[2] for row in run.log()], [None, None, None, (0, 0)])

    def test_items_from_0_to_9999(self):
        run = Run(Chain((2,)))
        self.assertEqual([run.request(0, item) for item in (0, 9999, 0, 9999)], [None, None, (0, 0), (0, 0)])
        self.assertEqual(run.contents, (((0, 9999),),))

    def test_anonymous_items_are_never_hit(self):
        run = asked(Chain((3,), (2,)), (0, -1), (0, -1), (1, -1), (0, -1))
        self.assertEqual([row[2] for row in run.log()], [None] * 4)
        self.assertEqual(run.contents, (((-1, -1, -1),), ((-1, -1),)))
        self.assertEqual(run.log(), [(0, -1, None), (0, -1, None), (1, -1, None), (0, -1, None)])

    def test_anonymous_items_evict_and_are_evicted(self):
        run = asked(Chain((2,)), (0, 7), (0, -1), (0, -1))
        self.assertEqual(run.contents, (((-1, -1),),))
        self.assertIsNone(run.request(0, 7))
        self.assertEqual(run.contents, (((-1, 7),),))

    def test_as_the_definition_says(self):
        generator = random.Random(6)
        chains = sample_chains() + [Chain.read("1 2 3 | 2 4 | 3"), Chain.read("2 1 3 | 1 | 2 | 5")]
        for chain in chains:
            for items in (2, 5, 16):
                run, reference = Run(chain), Reference(chain)
                for entry, item in random_requests(generator, chain, 150, items):
                    result = reference.request(entry, item)
                    self.assertEqual(run.request(entry, item), result)
                    self.assertEqual(run.log()[-1], (entry, item, result))
                    self.assertEqual(run.contents, reference.contents())
                    for sought in range(items):
                        levels = [level for level, held in reference.levels.items() if sought in held]
                        self.assertEqual(run.holders(sought), levels)
                results = [row[2] for row in run.log()]
                self.assertEqual([len(run), run.fetches], [150, results.count(None)])
                self.assertEqual(run.hits, 150 - results.count(None))

    def test_invalid_requests(self):
        run = asked(Chain((2,), (3,)), (0, 7), (1, 8))
        run.undo()
        before = state(run)
        for entry in (2, 4, -1, True, False, None, "0"):
            for item in [7, -1] + NOT_ITEMS:
                self.check_error(InvalidEntry, {"entry": entry}, run.request, entry, item)
        for item in NOT_ITEMS:
            for entry in (0, 1):
                self.check_error(InvalidItem, {"item": item}, run.request, entry, item)
        self.assertEqual(state(run), before)
        run.redo()

    def test_kinds_of_the_results(self):
        run = asked(Chain((2,), (3,)), (1, 7), (0, 7))
        self.assertEqual([type(run.log()), type(run.log()[0]), type(run.log()[1][2])], [list, tuple, tuple])
        self.assertEqual([type(run.contents), type(run.contents[0]), type(run.contents[0][0])], [tuple] * 3)
        self.assertEqual([type(run.holders(7)), type(run.holders(7)[0])], [list, tuple])
        self.assertEqual([type(run.history()), type(run.fetches), type(run.hits)], [tuple, int, int])


class RequestAllTest(CaseWithErrors):

    def test_as_single_requests(self):
        generator = random.Random(7)
        for chain in sample_chains():
            requests = random_requests(generator, chain, 80, 6)
            run, other = Run(chain), asked(chain, *requests)
            self.assertEqual(run.request_all(requests), [row[2] for row in other.log()])
            self.assertEqual(state(run)[:6], state(other)[:6])
            self.assertEqual([run.history(), other.history()], [(1, 0), (80, 0)])

    def test_no_requests(self):
        run = asked(Chain((2,)), (0, 7), (0, 8))
        run.undo()
        before = state(run)
        self.assertEqual([run.request_all([]), run.request_all(()), run.preview([])], [[], [], []])
        self.assertEqual(state(run), before)
        self.assertEqual(run.history(), (1, 1))

    def test_none_is_made_if_one_is_invalid(self):
        good = [(0, 7), (1, 8), (0, 7), (0, -1)]
        for place in range(len(good) + 1):
            for bad, error_class, data in [
                ((2, 7), InvalidEntry, {"entry": 2}), ((0, -2), InvalidItem, {"item": -2}),
                ((True, -2), InvalidEntry, {"entry": True}), ((1, True), InvalidItem, {"item": True}),
            ]:
                run = asked(Chain((2,), (3,)), (0, 7), (0, 5))
                run.undo()
                before = state(run)
                requests = good[:place] + [bad] + good[place:] + [(9, 9)]
                self.check_error(error_class, data, run.request_all, requests)
                self.check_error(error_class, data, run.preview, requests)
                self.assertEqual(state(run), before)

    def test_preview(self):
        generator = random.Random(8)
        for chain in sample_chains():
            run = asked(chain, *random_requests(generator, chain, 20, 5))
            run.undo()
            for many in (1, 5, 60):
                requests = random_requests(generator, chain, many, 5)
                before = state(run)
                previewed = run.preview(requests)
                self.assertEqual(run.preview(tuple(requests)), previewed)
                self.assertEqual(state(run), before)
                self.assertEqual(run.clone().request_all(requests), previewed)

    def test_lists_and_tuples(self):
        one, other = Run(Chain([2], [3])), Run(Chain((2,), (3,)))
        self.assertEqual(one.request_all([(0, 7), (0, 7)]), other.request_all(((0, 7), (0, 7))))
        self.assertEqual(state(one), state(other))

    def test_arguments_stay_and_results_are_new(self):
        run = Run(Chain((2,), (3,)))
        requests = [(0, 7), (1, 7), (0, -1)]
        results = run.request_all(requests)
        self.assertEqual(requests, [(0, 7), (1, 7), (0, -1)])
        before = state(run)
        results.append(5)
        run.preview(requests).append(5)
        run.log().append(5)
        run.holders(7).clear()
        requests.clear()
        self.assertEqual(state(run), before)
        self.assertEqual(run.holders(7), [(0, 0), (1, 0)])
        run.undo()
        run.redo()
        self.assertEqual(state(run), before)


class HoldersTest(CaseWithErrors):

    def test_levels_in_ascending_order(self):
        run = asked(Chain((1, 2), (), (3, 1)), (0, 7), (0, 8), (2, 9))
        self.assertEqual(run.holders(7), [(0, 1), (2, 0)])
        self.assertEqual(run.holders(8), [(0, 0), (0, 1), (2, 0)])
        self.assertEqual(run.holders(9), [(2, 0), (2, 1)])
        self.assertEqual([run.holders(0), run.holders(9999)], [[], []])

    def test_invalid_items(self):
        run = asked(Chain((1, 2)), (0, -1), (0, 1), (0, 0))
        for item in [-1] + NOT_ITEMS:
            self.check_error(InvalidItem, {"item": item}, run.holders, item)


class ResumeTest(CaseWithErrors):

    def test_contents_as_tuples_and_as_lists(self):
        chain = Chain.read("2 3 | - | 1")
        for contents in (
            (((5, 6), (7, -1, -1)), (), ((6,),)), (((5,), ()), (), ((),)), (((), ()), (), ((),)),
            (((-1, -1), (-1, 0, 9999)), (), ((-1,),)),
        ):
            lists = [[list(items) for items in row] for row in contents]
            mixed = [list(contents[0]), (), [list(contents[2][0])]]
            for given in (contents, lists, mixed):
                kept = copy.deepcopy(given)
                run = Run.resume(chain, given)
                self.assertEqual(given, kept)
                self.assertEqual(run.contents, contents)
                self.assertEqual([type(run.contents), type(run.contents[0]), type(run.contents[0][0])], [tuple] * 3)
                self.assertEqual((run.chain, run.log(), len(run), run.fetches, run.hits, run.history()),
                                 (chain, [], 0, 0, 0, (0, 0)))

    def test_contents_are_copied(self):
        contents = [[[5], [6]]]
        run = Run.resume(Chain((2, 3)), contents)
        contents[0][0].append(9)
        contents[0].append([])
        contents.clear()
        self.assertEqual(run.contents, (((5,), (6,)),))
        run.request(0, 1)
        self.assertEqual(run.contents, (((5, 1), (6, 1)),))

    def test_requests_behind_it(self):
        run = Run.resume(Chain((2, 3)), (((5, 6), (7, -1, 5)),))
        self.assertEqual([run.request(0, 5), run.request(0, 7), run.request(0, 5), run.request(0, 8)],
                         [(0, 0), (0, 1), (0, 1), None])
        self.assertEqual(run.contents, (((5, 8), (-1, 5, 8)),))
        self.assertEqual([len(run), run.fetches, run.hits, run.history()], [4, 1, 3, (4, 0)])
        for _ in range(4):
            run.undo()
        self.assertEqual(run, Run.resume(Chain((2, 3)), (((5, 6), (7, -1, 5)),)))
        self.check_error(NothingLeft, {}, run.undo)

    def test_one_item_in_several_levels(self):
        run = Run.resume(Chain((2, 3), (1,)), (((5,), (5,)), ((5,),)))
        self.assertEqual(run.holders(5), [(0, 0), (0, 1), (1, 0)])

    def test_a_covered_level_may_be_hit_then(self):
        run = Run.resume(Chain((2, 1)), (((), (5,)),))
        self.assertEqual(run.request(0, 5), (0, 1))

    def test_invalid_contents(self):
        chain = Chain.read("2 3 | - | 1")
        cases = [
            (), (((), ()), ()), (((), ()), (), ((),), ()), (((), ()), (), ()), (((),), (), ((),)),
            (((), (), ()), (), ((),)), (((), ()), ((),), ((),)), (((), ()), (), ((), ())),
            (((1, 2, 3), ()), (), ((),)), (((), (1, 2, 3, 4)), (), ((),)), (((), ()), (), ((1, 2),)),
            (((-1, -1, -1), ()), (), ((),)),
            (((5, 5), ()), (), ((),)), (((), (5, 6, 5)), (), ((),)), (((), (0, -1, 0)), (), ((),)),
            (((-2,), ()), (), ((),)), (((10000,), ()), (), ((),)), (((), (1, True)), (), ((),)),
            (((False,), ()), (), ((),)), (((), ()), (), ((None,),)), (((), ()), (), (("5",),)),
            (((), ((5,),)), (), ((),)),
            (5, (), ((),)), (((), 5), (), ((),)), (((), ()), None, ((),)), (((), ()), (), (None,)),
            ("ab", (), ((),)), ((((), ()), "", ((),))), (("", ""), (), ((),)), (((), ()), (), "a"),
        ]
        for contents in cases:
            given = [list(row) if isinstance(row, tuple) else row for row in contents]
            self.check_error(InvalidContents, {}, Run.resume, chain, contents)
            self.check_error(InvalidContents, {}, Run.resume, chain, given)
            self.check_error(InvalidContents, {}, TracedRun.resume, chain, contents)
        for contents in (None, 5, "abc", {0: (), 1: (), 2: ()}, True):
            self.check_error(InvalidContents, {}, Run.resume, chain, contents)
            self.check_error(InvalidContents, {}, TracedRun.resume, chain, contents)

    def test_a_segment_with_the_wrong_number_of_levels_beside_full_ones(self):
        self.check_error(InvalidContents, {}, Run.resume, Chain((1,), (1,)), (((1,), (2,)),))
        self.check_error(InvalidContents, {}, Run.resume, Chain((1, 1)), (((1,),), ((2,),)))

    def test_levels_filled_to_the_capacity_and_one_more(self):
        for capacity in range(1, 13):
            full = list(range(capacity))
            self.assertEqual(Run.resume(Chain((capacity,)), [[full]]).contents, ((tuple(full),),))
            self.check_error(InvalidContents, {}, Run.resume, Chain((capacity,)), [[full + [100]]])
            self.check_error(InvalidContents, {}, Run.resume, Chain((capacity,)), [[[-1] * (capacity + 1)]])

    def test_what_a_run_holds_can_be_resumed(self):
        generator = random.Random(9)
        for chain in sample_chains():
            run = asked(chain, *random_requests(generator, chain, 40, 8))
            other = Run.resume(run.chain, run.contents)
            self.assertEqual(other, run)
            more = random_requests(generator, chain, 40, 8)
            self.assertEqual(other.request_all(more), run.request_all(more))


class RemoveLevelTest(CaseWithErrors):

    def test_covered_levels(self):
        run = asked(Chain((3, 2, 4), (5,)), (0, 7), (0, 8), (1, 9), (0, 10), (0, 11), (0, 7))
        log = run.log()
        self.assertEqual(run.contents[0], ((10, 11, 7), (11, 7), (7, 8, 10, 11)))
        self.assertIsNone(run.remove_level((0, 1)))
        self.assertEqual(run.chain, Chain((3, 4), (5,)))
        self.assertEqual(run.contents, (((10, 11, 7), (7, 8, 10, 11)), ((7, 8, 9, 10, 11),)))
        self.assertEqual([run.log(), run.fetches, run.hits, len(run)], [log, 5, 1, 6])
        self.assertEqual(run.log()[-1], (0, 7, (0, 2)))
        self.assertEqual(run.request(0, 8), (0, 1))

    def test_levels_may_be_given_as_lists(self):
        run = Run(Chain((3, 2)))
        run.remove_level([0, 1])
        self.assertEqual(run.chain, Chain((3,)))
        self.check_error(NotRemovable, {"level": (0, 0)}, run.remove_level, [0, 0])
        self.check_error(NoLevel, {"level": (0, 1)}, run.remove_level, [0, 1])

    def test_the_last_level_of_the_last_segment(self):
        run = asked(Chain((2,), (1, 1)), (0, 7))
        run.remove_level((1, 1))
        self.assertEqual([run.chain, run.contents], [Chain((2,), (1,)), (((7,),), ((7,),))])

    def test_levels_that_are_not_covered(self):
        run = asked(Chain((1, 4), (1,), (3, 5, 2), ()), (0, 7), (0, 8))
        run.undo()
        before = state(run)
        for level in ((0, 0), (0, 1), (1, 0), (2, 0), (2, 1)):
            self.check_error(NotRemovable, {"level": level}, run.remove_level, level)
        for level in ((0, 2), (1, 1), (2, 3), (3, 0), (4, 0), (-1, 0), (0, -1), (0, True), (False, 0)):
            self.check_error(NoLevel, {"level": level}, run.remove_level, level)
        self.assertEqual(state(run), before)

    def test_bases_of_the_errors(self):
        for error_class in (InvalidEntry, InvalidItem, InvalidContents, NotRemovable, NothingLeft):
            self.assertEqual(error_class.__bases__, (ChainError,))
        self.assertEqual(NoLevel.__bases__, (NotFound,))

    def test_covered_levels_of_resumed_runs_with_items(self):
        run = Run.resume(Chain((2, 1, 3)), (((1,), (9,), (2, 3)),))
        run.remove_level((0, 1))
        self.assertEqual(run, Run.resume(Chain((2, 3)), (((1,), (2, 3)),)))
        run.undo()
        self.assertEqual(run, Run.resume(Chain((2, 1, 3)), (((1,), (9,), (2, 3)),)))

    def test_all_covered_levels_and_the_same_results_behind(self):
        generator = random.Random(10)
        for chain in sample_chains():
            run = asked(chain, *random_requests(generator, chain, 60, 7))
            other = run.clone()
            while covered := [level for level in run.chain.behind(0) if is_covered(run.chain, level)]:
                run.remove_level(generator.choice(covered))
            for entry, item in random_requests(generator, chain, 60, 7):
                self.assertEqual(run.request(entry, item) is None, other.request(entry, item) is None)


class PromiseTenTest(unittest.TestCase):
    """What [10] says of chains that start empty."""

    def test_covered_levels_are_never_hit(self):
        generator = random.Random(1)
        for chain in sample_chains() + [Chain.read("3 2 4 1 | 2 2"), Chain.read("2 2 1 | 1 1 | 3 3 4 4")]:
            covered = [level for level in chain.behind(0) if is_covered(chain, level)]
            for items in (2, 4, 6, 14):
                results = Run(chain).request_all(random_requests(generator, chain, 300, items))
                self.assertEqual([level for level in covered if level in results], [])

    def test_alike_chains_fetch_the_same(self):
        generator = random.Random(2)
        for chain in sample_chains() + [Chain.read("1 3 2 4 1 | 1 2 2"), Chain.read("2 2 1 | 1 1 | 1 3 3 4 4")]:
            for items in (2, 4, 6, 14):
                requests = random_requests(generator, chain, 300, items)
                results = [Run(one).request_all(requests) for one in (chain, normal_chain(chain))]
                self.assertEqual(*[[result is None for result in row] for row in results])


class StepsTest(CaseWithErrors):

    def test_undo_and_redo_of_all_kinds_of_steps(self):
        run = Run(Chain((2, 1), (3,)))
        states = [state(run)]
        for step in [
            lambda: run.request(0, 7), lambda: run.request_all([(0, 8), (1, 9), (0, -1)]), lambda: run.request(0, 8),
            lambda: run.remove_level((0, 1)), lambda: run.request_all([(0, 9)]), lambda: run.request(1, -1),
        ]:
            step()
            states.append(state(run))
        self.assertEqual(run.history(), (6, 0))
        for _ in range(2):
            for at in range(5, -1, -1):
                self.assertIsNone(run.undo())
                self.assertEqual(state(run)[:6], states[at][:6])
                self.assertEqual(run.history(), (at, 6 - at))
            self.check_error(NothingLeft, {}, run.undo)
            for at in range(1, 7):
                self.assertIsNone(run.redo())
                self.assertEqual(state(run)[:6], states[at][:6])
                self.assertEqual(run.history(), (at, 6 - at))
            self.check_error(NothingLeft, {}, run.redo)
            self.assertEqual(state(run), states[6])

    def test_nothing_left_at_the_beginning(self):
        run = Run(Chain((2,)))
        self.check_error(NothingLeft, {}, run.undo)
        self.check_error(NothingLeft, {}, run.redo)
        self.assertEqual(state(run), state(Run(Chain((2,)))))

    def test_another_step_ends_redoing(self):
        for step in [lambda run: run.request(0, 9), lambda run: run.request_all([(0, 7)]),
                     lambda run: run.remove_level((0, 1))]:
            run = asked(Chain((2, 2)), (0, 7), (0, 8))
            run.undo()
            self.assertEqual(run.history(), (1, 1))
            step(run)
            self.assertEqual(run.history(), (2, 0))
            before = state(run)
            self.check_error(NothingLeft, {}, run.redo)
            self.assertEqual(state(run), before)
            run.undo()
            self.assertEqual(run, asked(Chain((2, 2)), (0, 7)))
            self.assertEqual(run.history(), (1, 1))

    def test_other_calls_do_not_end_redoing(self):
        run = asked(Chain((2, 2)), (0, 7), (0, 8))
        after = state(run)
        run.undo()
        run.preview([(0, 9)])
        run.holders(7)
        run.request_all([])
        run.clone().request(0, 1)
        self.check_error(InvalidItem, {"item": -2}, run.request, 0, -2)
        self.check_error(NotRemovable, {"level": (0, 0)}, run.remove_level, (0, 0))
        run.redo()
        self.assertEqual(state(run), after)

    def test_a_hit_that_changes_nothing_is_a_step(self):
        run = asked(Chain((2,)), (0, 7), (0, 7))
        self.assertEqual(run.history(), (2, 0))
        run.undo()
        self.assertEqual([len(run), run.hits, run.history()], [1, 0, (1, 1)])

    def test_many_steps(self):
        run = Run(Chain((12, 3), (5,)))
        for at in range(3000):
            run.request(at % 2, at % 17)
        after = state(run)
        for _ in range(3000):
            run.undo()
        self.assertEqual(run, Run(Chain((12, 3), (5,))))
        for _ in range(3000):
            run.redo()
        self.assertEqual(state(run), after)


class CloneTest(CaseWithErrors):

    def test_state_log_and_steps(self):
        for make in (Run, TracedRun):
            run = make(Chain((2, 1), (3,)))
            run.request_all([(0, 7), (1, 8)])
            run.remove_level((0, 1))
            run.request(0, 9)
            run.undo()
            clone = run.clone()
            self.assertIs(type(clone), make)
            self.assertEqual(clone, run)
            self.assertEqual(state(clone), state(run))
            clone.redo()
            clone.undo()
            clone.undo()
            clone.undo()
            self.check_error(NothingLeft, {}, clone.undo)
            self.assertEqual([clone.chain, clone.log(), clone.history()], [Chain((2, 1), (3,)), [], (0, 3)])
            self.assertEqual(run.history(), (2, 1))

    def test_both_go_on_by_themselves(self):
        for make in (Run, TracedRun):
            run = make(Chain((2, 1), (3,)))
            run.request(0, 7)
            run.request(0, 8)
            run.undo()
            clone = run.clone()
            before = state(run)
            clone.request_all([(0, 1), (0, 2), (1, 3)])
            clone.remove_level((0, 1))
            self.assertEqual(state(run), before)
            after = state(clone)
            run.redo()
            run.undo()
            run.undo()
            run.request(1, 5)
            self.assertEqual(state(clone), after)

    def test_clones_of_resumed_runs(self):
        run = Run.resume(Chain((2,)), (((5, -1),),))
        clone = run.clone()
        self.assertEqual([clone, clone.history()], [run, (0, 0)])


class EqualityTest(unittest.TestCase):

    def test_equal_runs(self):
        one, other = asked(Chain((2,)), (0, 7), (0, 7), (0, 8)), asked(Chain((2,)), (0, 7), (0, 8))
        self.assertTrue(one == other)
        self.assertFalse(one != other)
        self.assertNotEqual(len(one), len(other))
        self.assertTrue(Run(Chain((2,), ())) == Run(Chain([2], [])))
        self.assertTrue(asked(Chain((1,)), (0, -1), (0, -1)) == Run.resume(Chain((1,)), (((-1,),),)))

    def test_runs_that_differ(self):
        self.assertFalse(Run(Chain((2,))) == Run(Chain((3,))))
        self.assertTrue(Run(Chain((2,))) != Run(Chain((3,))))
        self.assertFalse(Run(Chain((2,), ())) == Run(Chain((), (2,))))
        self.assertFalse(asked(Chain((2,)), (0, 7)) == Run(Chain((2,))))
        self.assertFalse(asked(Chain((2,)), (0, 7), (0, 8)) == asked(Chain((2,)), (0, 8), (0, 7)))

    def test_no_other_object_is_equal(self):
        run = Run(Chain((2,)))
        for other in (Chain((2,)), run.contents, None, 0, "Run(2, 0 requests)", [run]):
            self.assertFalse(run == other)
            self.assertTrue(run != other)

    def test_repr(self):
        run = Run(Chain((2,), (3, 4)))
        self.assertEqual(repr(run), "Run(2 | 3 4, 0 requests)")
        run.request(0, 7)
        self.assertEqual(repr(run), "Run(2 | 3 4, 1 requests)")
        run.request_all([(0, 7)] * 4)
        self.assertEqual(repr(run), "Run(2 | 3 4, 5 requests)")
        run.undo()
        self.assertEqual([repr(run), len(run)], ["Run(2 | 3 4, 1 requests)", 1])


class TracedRunTest(CaseWithErrors):

    def test_is_a_run(self):
        self.assertEqual(TracedRun.__bases__, (Run,))

    def test_fetched(self):
        run = TracedRun(Chain((2,), (3,)))
        self.assertEqual(run.fetched(), [])
        run.request_all([(0, 7), (0, 8), (1, -1), (0, 7), (0, -1), (1, 0), (1, 7)])
        self.assertEqual(run.fetched(), [7, 8, -1, -1, 0, 7])
        self.assertEqual(run.fetches, 6)
        run.request(0, 9)
        self.assertEqual(run.fetched(), [7, 8, -1, -1, 0, 7, 9])
        run.undo()
        self.assertEqual(run.fetched(), [7, 8, -1, -1, 0, 7])
        run.undo()
        self.assertEqual(run.fetched(), [])
        run.redo()
        run.redo()
        self.assertEqual(run.fetched(), [7, 8, -1, -1, 0, 7, 9])

    def test_fetched_is_new(self):
        run = TracedRun(Chain((2,)))
        run.request(0, 7)
        run.fetched().append(5)
        self.assertEqual([run.fetched(), type(run.fetched())], [[7], list])

    def test_fetched_behind_a_removed_level(self):
        run = TracedRun(Chain((2, 2)))
        run.request_all([(0, 7), (0, 8)])
        run.remove_level((0, 1))
        self.assertEqual(run.fetched(), [7, 8])

    def test_resume_and_clone(self):
        run = TracedRun.resume(Chain((2,)), [[[7, -1]]])
        self.assertIs(type(run), TracedRun)
        self.assertEqual([run.fetched(), run.contents, run.history()], [[], (((7, -1),),), (0, 0)])
        run.request_all([(0, 7), (0, 8)])
        clone = run.clone()
        self.assertIs(type(clone), TracedRun)
        clone.request(0, 9)
        self.assertEqual([run.fetched(), clone.fetched()], [[8], [8, 9]])

    def test_runs_are_not_traced(self):
        self.assertIs(type(Run(Chain((2,))).clone()), Run)
        self.assertIs(type(Run.resume(Chain((2,)), [[[]]])), Run)
        self.assertFalse(hasattr(Run(Chain((2,))), "fetched"))

    def test_equality_and_repr(self):
        one, other = TracedRun(Chain((2,))), Run(Chain((2,)))
        self.assertTrue(one == other and other == one and one == TracedRun(Chain((2,))))
        self.assertFalse(one != other or other != one)
        one.request(0, 7)
        self.assertTrue(one != other and other != one)
        self.assertEqual(repr(one), "Run(2, 1 requests)")

    def test_runs_as_runs_do(self):
        generator = random.Random(11)
        for chain in sample_chains():
            requests = random_requests(generator, chain, 50, 5)
            one, other = TracedRun(chain), Run(chain)
            self.assertEqual(one.request_all(requests), other.request_all(requests))
            self.assertEqual(state(one), state(other))
            self.assertEqual(one.fetched(), [row[1] for row in other.log() if row[2] is None])


if __name__ == "__main__":
    unittest.main()
