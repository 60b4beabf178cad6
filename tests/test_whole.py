"""What the document promises over the whole program, and what several files say together."""

import random
import unittest

from shelfdoors import errors
from shelfdoors.carry import Outcome, carry_out, cyclic_fetches
from shelfdoors.chains import Chain
from shelfdoors.console import Console
from shelfdoors.documents import rack_text, read_rack
from shelfdoors.errors import ChainError, NotFound
from shelfdoors.hidden import Hidden, identify
from shelfdoors.normal import (
    are_alike, is_covered, is_idle, is_normal, is_reduction, normal_chain, reduction, removable,
)
from shelfdoors.numbering import chain_at, count_normal, number_of
from shelfdoors.programs import check_program, parse_program, program_text
from shelfdoors.rack import Rack
from shelfdoors.reasons import explanation
from shelfdoors.runs import Run, TracedRun
from shelfdoors.separate import is_separating, separating
from tests.support import CaseWithErrors, random_requests, sample_chains


class NamesTest(unittest.TestCase):

    def test_all_arguments_can_be_passed_by_name(self):
        chain, level = Chain((3, 2), (4,)), (0, 1)
        run = Run(chain=chain)
        calls = [
            (Chain.read(text="3 2 | 4"), chain),
            (chain.behind(entry=1), [(1, 0)]),
            (chain.without_level(level=level), Chain((3,), (4,))),
            (chain.without_entry(entry=1), Chain((3, 2, 4))),
            (chain.with_entry(level=level), Chain((3,), (2,), (4,))),
            (is_covered(chain=chain, level=level), True),
            (is_idle(chain=chain, level=level), False),
            (list(removable(chain=chain)), [level]),
            (is_normal(chain=chain), False),
            (normal_chain(chain=chain), Chain((3,), (4,))),
            (reduction(chain=chain), [level]),
            (is_reduction(chain=chain, steps=[level]), True),
            (are_alike(one=chain, other=chain), True),
            (count_normal(entries=2, most=3), 25),
            (number_of(chain=Chain((3,), (2, 3)), most=3), 13),
            (chain_at(number=13, entries=2, most=3), Chain((3,), (2, 3))),
            (Run.resume(chain=chain, contents=[[[1], []], [[2]]]).contents, (((1,), ()), ((2,),))),
            (run.request(entry=0, item=7), None),
            (run.request_all(requests=[(0, 7)]), [(0, 0)]),
            (run.preview(requests=[(1, 7)]), [(1, 0)]),
            (run.holders(item=7), [(0, 0), (0, 1), (1, 0)]),
            (run.remove_level(level=level), None),
            (explanation(chain=Chain((2,)), requests=[(0, 7)]), [(0, 0, "absent", None, None)]),
            (separating(one=chain, other=chain), None),
            (is_separating(one=chain, other=chain, requests=[(0, 7)]), False),
            (check_program(chain=chain, program=[], parts={}), None),
            (program_text(program=[("use", "a")]), "use a"),
            (parse_program(text="use a"), [("use", "a")]),
            (carry_out(chain=chain, program=[], parts={}), Outcome(made=0, missed=0, final=(((), ()), ((),)))),
            (cyclic_fetches(chain=chain, entry=0, many=5, rounds=2), 10),
            (identify(hidden=Hidden(chain=chain, warm=[(0, 7)]), most=5), Chain((3,), (4,))),
            (Hidden(chain).ask(entry=0, item=7), True),
            (Rack(limit=3).apply(command=("open", "a", "2")), None),
            (rack_text(rack=Rack(limit=3)), "rack 3\n"),
            (read_rack(text="rack 3\n"), Rack(limit=3)),
            (Console(rack=Rack()).answer(line="names"), "none"),
        ]
        for result, expected in calls:
            self.assertEqual(result, expected)

    def test_keyword_only_parameters(self):
        chain = Chain((2,))
        for call in (
            lambda: count_normal(2, 3), lambda: number_of(chain, 3), lambda: chain_at(1, 1, 3),
            lambda: check_program(chain, [], {}), lambda: carry_out(chain, [], {}), lambda: Hidden(chain, ()),
            lambda: identify(Hidden(chain), 3), lambda: Rack(3), lambda: Console(Rack()),
        ):
            self.assertRaises(TypeError, call)

    def test_defaults_can_be_left_out(self):
        chain = Chain((12,))
        self.assertEqual(
            [count_normal(1), number_of(chain), chain_at(1024, 1), check_program(chain, []), carry_out(chain, []).made,
             Hidden(chain).asked, identify(Hidden(chain)), Rack().limit, Console().rack()],
            [2049, 1024, chain, None, 0, 0, chain, 6, Rack()],
        )


class ErrorsTest(CaseWithErrors):

    def test_true_and_false_are_no_integers(self):
        chain, rack = Chain((2,), (3,)), Rack()
        rack.apply(("open", "a", "2 | 3"))
        for value in (True, False):
            for name, call in [
                ("InvalidChain", lambda: Chain((value,))), ("InvalidEntry", lambda: chain[value]),
                ("InvalidEntry", lambda: chain.behind(value)), ("InvalidEntry", lambda: chain.without_entry(value)),
                ("NoLevel", lambda: chain.without_level((0, value))), ("NoLevel", lambda: is_idle(chain, (value, 0))),
                ("InvalidChain", lambda: count_normal(value)), ("InvalidBound", lambda: count_normal(1, most=value)),
                ("InvalidBound", lambda: number_of(chain, most=value)), ("InvalidNumber", lambda: chain_at(value, 1)),
                ("InvalidEntry", lambda: Run(chain).request(value, 7)),
                ("InvalidItem", lambda: Run(chain).request(0, value)),
                ("InvalidItem", lambda: Run(chain).holders(value)),
                ("InvalidContents", lambda: Run.resume(chain, [[[value]], [[]]])),
                ("InvalidEntry", lambda: explanation(chain, [(value, 7)])),
                ("InvalidItem", lambda: is_separating(chain, chain, [(0, value)])),
                ("InvalidProgram", lambda: check_program(chain, [("ask", 0, value)])),
                ("InvalidProgram", lambda: carry_out(chain, [("repeat", value, [])])),
                ("InvalidEntry", lambda: cyclic_fetches(chain, value, 1, 1)),
                ("InvalidBound", lambda: cyclic_fetches(chain, 0, value, 1)),
                ("InvalidBound", lambda: cyclic_fetches(chain, 0, 1, value)),
                ("InvalidItem", lambda: Hidden(chain, warm=[(0, value)])),
                ("InvalidEntry", lambda: Hidden(chain).ask(value, 7)),
                ("InvalidBound", lambda: identify(Hidden(chain), most=value)),
                ("InvalidBound", lambda: Rack(limit=value)),
                ("InvalidBound", lambda: rack.set_limit(value)),
                ("InvalidItem", lambda: rack.apply(("ask", "a", 0, value))),
            ]:
                with self.subTest(name=name, value=value):
                    with self.assertRaises((ChainError, NotFound)) as caught:
                        call()
                    self.assertEqual(type(caught.exception).__name__, name)
                    self.assertEqual(caught.exception.code, name)

    def test_the_codes_that_a_console_answers_are_those_of_the_errors(self):
        console = Console(rack=Rack(limit=1))
        for line, error_class in [
            ("undo", errors.NothingLeft), ("open A 2", errors.InvalidName), ("open a x", errors.InvalidText),
            ("close a", errors.UnknownName), ("open a 2", None), ("open a 2", errors.NameTaken),
            ("open b 2", errors.RackFull), ("ask a 1 7", errors.InvalidEntry), ("ask a 0 10000", errors.InvalidItem),
        ]:
            answer = console.answer(line)
            self.assertEqual(answer, "ok" if error_class is None else f"error {error_class.__name__}")


class TogetherTest(unittest.TestCase):

    def test_alike_chains_fetch_the_same(self):
        generator = random.Random(1)
        for chain in sample_chains():
            for _ in range(5):
                requests = random_requests(generator, chain, 100, 8)
                rows = [Run(other).preview(requests) for other in (chain, normal_chain(chain))]
                self.assertEqual(*[[result is None for result in row] for row in rows])

    def test_a_hidden_chain_is_told_by_its_number(self):
        generator = random.Random(2)
        for most, entries in [(3, 4), (5, 2), (12, 3)]:
            for _ in range(10):
                number = generator.randrange(count_normal(entries, most=most))
                hidden = Hidden(chain_at(number, entries, most=most), warm=[(0, 0), (0, 1), (0, 0)])
                self.assertEqual(number_of(identify(hidden, most=most), most=most), number)

    def test_a_separating_list_separates_hidden_chains(self):
        generator = random.Random(3)
        for _ in range(100):
            one, other = [chain_at(generator.randrange(count_normal(2, most=6)), 2, most=6) for _ in range(2)]
            requests = separating(one, other)
            if one == other:
                self.assertIsNone(requests)
            else:
                first, second = Hidden(one), Hidden(other)
                told = [(first.ask(*request), second.ask(*request)) for request in requests]
                self.assertEqual([one == other for one, other in told], [True] * (len(told) - 1) + [False])

    def test_programs_runs_racks_and_explanations_agree(self):
        generator = random.Random(4)
        for chain in sample_chains():
            requests = random_requests(generator, chain, 30, 6)
            run = TracedRun(chain)
            results = run.request_all(requests)
            outcome = carry_out(chain, [("ask", *request) for request in requests])
            self.assertEqual([outcome.made, outcome.missed, outcome.hits, outcome.final],
                             [len(run), run.fetches, run.hits, run.contents])
            self.assertEqual(len(run.fetched()), outcome.missed)
            rack = Rack()
            rack.apply(("open", "a", str(chain)))
            self.assertEqual(rack.apply_all(*[("ask", "a", *request) for request in requests]), results)
            self.assertEqual([rack.run_of("a"), rack.fetches_of("a"), rack.total], [run, run.fetches, run.fetches])
            for many in range(1, len(requests) + 1):
                rows = explanation(chain, requests[:many])
                hits = [row[:2] for row in rows if row[2] == "hit"]
                self.assertEqual(hits, [] if results[many - 1] is None else [results[many - 1]])

    def test_a_console_and_the_text_of_its_rack(self):
        console = Console()
        for line in ("open b 1 2 | 3", "ask b 0 7", "ask b 1 -1", "open a -", "rename a abc"):
            console.answer(line)
        text = rack_text(console.rack())
        self.assertEqual(text, "rack 6\nrun abc -\nrun b 1 2 | 3\nlevel 7\nlevel 7\nlevel 7 -1\n")
        again = Console(rack=read_rack(text))
        self.assertEqual(again.rack(), console.rack())
        self.assertEqual([again.answer(line) for line in ("names", "holders b 7", "fetches b", "undo", "ask b 0 7")],
                         ["abc b", "0:0 0:1 1:0", "0", "error NothingLeft", "hit 0 0"])

    def test_the_same_call_returns_the_same(self):
        one, other = Chain((2, 4), (3,)), Chain((2,), (3,))
        for call in (
            lambda: separating(one, other), lambda: reduction(Chain((2, 1, 2))),
            lambda: list(removable(Chain((2, 1, 2)))),
            lambda: parse_program("repeat 2\nask 0 7\nend"), lambda: one.behind(0),
            lambda: Run(one).preview([(0, 7)] * 2),
            lambda: explanation(one, [(0, 7)] * 2), lambda: carry_out(one, [("fresh", 0, 3)]).final,
        ):
            self.assertEqual(call(), call())


if __name__ == "__main__":
    unittest.main()
