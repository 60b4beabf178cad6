"""Points 13 and 15, and the section shelfdoors/programs.py of the interface."""

import copy
import random
import unittest

from shelfdoors.chains import Chain
from shelfdoors.errors import ChainError, CircularPart, InvalidProgram, NotFound, UnknownPart
from shelfdoors.programs import MAX_DEPTH, MAX_STATEMENTS, check_program, parse_program, program_text
from tests.support import CaseWithErrors

CHAIN = Chain((2,), (3,))
ASK = ("ask", 0, 7)
RIGHT = [
    ("ask", 0, 0), ("ask", 1, 9999), ("ask", 0, -1),
    ("sweep", 0, 0, 9999), ("sweep", 1, 5, 5), ("sweep", 1, 0, 0), ("sweep", 0, 9998, 9999),
    ("fresh", 0, 0), ("fresh", 1, 1), ("fresh", 0, 50),
    ("repeat", 0, ()), ("repeat", 1, []), ("repeat", 10 ** 30, (ASK,)), ("repeat", 2, [ASK]),
    ("repeat", 3, [("repeat", 4, (ASK, ASK)), ("fresh", 0, 2)]),
    ("use", "a"), ("use", "abcdefgh"), ("use", "zyxwvuts"),
]
WRONG_NUMBERS = (True, False, None, "1", (), [1], -2)
WRONG = [
    # Other lengths.
    (), ("ask",), ("ask", 0), ("ask", 0, 7, 7), ("sweep", 0, 1), ("sweep", 0, 1, 2, 3), ("fresh", 0),
    ("fresh", 0, 1, 1), ("repeat",), ("repeat", 2), ("repeat", 2, (), ()), ("use",), ("use", "a", "a"),
    # Other words.
    ("Ask", 0, 7), ("asks", 0, 7), ("", 0, 7), (None, 0, 7), (0, 0, 7), ("end",), ("a",), (("ask",), 0, 7),
    # No tuples.
    ["ask", 0, 7], ["use", "a"], ["repeat", 2, ()], [], "ask", "ask 0 7", None, 5, True, {"ask": 0},
    # Numbers beyond their bounds.
    ("ask", -1, 7), ("ask", 2, 7), ("ask", 4, 7), ("ask", 10 ** 30, 7), ("ask", 0, -2), ("ask", 0, 10000),
    ("sweep", -1, 1, 2), ("sweep", 2, 1, 2), ("sweep", 0, -1, 2), ("sweep", 0, -1, -1), ("sweep", 0, 1, 10000),
    ("sweep", 0, 10000, 10000), ("sweep", 0, 2, 1), ("sweep", 0, 9999, 0),
    ("fresh", -1, 3), ("fresh", 2, 3), ("fresh", 0, -1), ("fresh", 0, 51), ("fresh", 0, 10 ** 30),
    ("repeat", -1, ()), ("repeat", 10 ** 30 + 1, ()), ("repeat", 10 ** 39, ()),
    # Other kinds.
    *[("ask", value, 7) for value in WRONG_NUMBERS], *[("ask", 0, value) for value in WRONG_NUMBERS],
    *[("sweep", value, 1, 2) for value in WRONG_NUMBERS], *[("sweep", 0, value, 9) for value in WRONG_NUMBERS],
    *[("sweep", 0, 0, value) for value in WRONG_NUMBERS], *[("fresh", value, 3) for value in WRONG_NUMBERS],
    *[("fresh", 0, value) for value in WRONG_NUMBERS], *[("repeat", value, ()) for value in WRONG_NUMBERS],
    ("repeat", 2, None), ("repeat", 2, "ask"), ("repeat", 2, ""), ("repeat", 2, {}), ("repeat", 2, 5),
    # No names.
    ("use", ""), ("use", "abcdefghi"), ("use", "A"), ("use", "aB"), ("use", "a1"), ("use", "a b"), ("use", " a"),
    ("use", "a\n"), ("use", "a_b"), ("use", "\u00e4"), ("use", "\u00df"), ("use", 5), ("use", None), ("use", ("a",)),
    ("use", ["a"]), ("use", b"a"),
]
PARTS = {"a": [], "abcdefgh": [ASK], "zyxwvuts": (ASK,)}


def nested(depth, body):
    """Return a body with so many repeats around it."""
    for _ in range(depth):
        body = [("repeat", 2, body)]
    return body


class ConstantsTest(unittest.TestCase):

    def test_constants(self):
        self.assertEqual([MAX_STATEMENTS, MAX_DEPTH], [40, 4])
        self.assertIs(type(MAX_STATEMENTS), int)
        self.assertIs(type(MAX_DEPTH), int)


class CheckTest(CaseWithErrors):

    def check_place(self, place, program, *, parts=None, chain=CHAIN):
        """Check that a program is invalid at the statement with a number."""
        self.check_error(InvalidProgram, {"place": place}, lambda: check_program(chain, program, parts=parts))

    def test_statements_in_their_right_form(self):
        for statement in RIGHT:
            with self.subTest(statement=statement):
                self.assertIsNone(check_program(CHAIN, [statement], parts=PARTS))
                self.assertIsNone(check_program(CHAIN, (ASK, statement), parts=PARTS))
        self.assertIsNone(check_program(CHAIN, RIGHT, parts=PARTS))
        self.assertIsNone(check_program(CHAIN, []))
        self.assertIsNone(check_program(CHAIN, (), parts=None))
        self.assertIsNone(check_program(CHAIN, [ASK], parts={}))

    def test_statements_with_a_part_that_is_bent(self):
        for statement in WRONG:
            with self.subTest(statement=statement):
                self.check_place(0, [statement], parts=PARTS)
                self.check_place(2, (ASK, ASK, statement, ASK), parts=PARTS)
                self.check_place(1, [("repeat", 2, [statement])], parts=PARTS)
                self.check_place(3, [ASK, ("repeat", 0, (ASK, statement)), ("ask", 0, -5)], parts=PARTS)

    def test_a_name_that_is_too_long_is_no_part(self):
        self.check_place(0, [("use", "abcdefghi")], parts={"abcdefghi": []})
        self.check_place(0, [("use", "A")], parts={"A": []})

    def test_entries_that_the_chain_does_not_have(self):
        for many in range(1, 5):
            chain = Chain(*[(2,)] * many)
            for entry in range(4):
                for statement in (("ask", entry, 7), ("sweep", entry, 1, 2), ("fresh", entry, 1)):
                    if entry < many:
                        self.assertIsNone(check_program(chain, [statement]))
                    else:
                        self.check_place(1, [ASK, statement], chain=chain)

    def test_statement_40(self):
        self.assertIsNone(check_program(CHAIN, [ASK] * 40))
        self.check_place(40, [ASK] * 41)
        self.check_place(40, [ASK] * 60)
        self.check_place(40, [ASK] * 40 + [None])
        self.check_place(39, [ASK] * 39 + [None, ASK])

    def test_statement_40_counted_through_repeats(self):
        self.assertIsNone(check_program(CHAIN, [("repeat", 2, [ASK] * 39)]))
        self.check_place(40, [("repeat", 2, [ASK] * 40)])
        halves = [("repeat", 2, [ASK] * 18), ("repeat", 0, ())]
        self.assertIsNone(check_program(CHAIN, halves + halves))
        self.check_place(40, halves + halves + [ASK])
        self.check_place(40, halves + [ASK] * 19 + [("repeat", 2, (ASK,))])
        self.assertIsNone(check_program(CHAIN, nested(4, [ASK] * 36)))
        self.check_place(40, nested(4, [ASK] * 37))
        # A use counts as one statement, and its part by itself.
        parts = {"a": [ASK] * 40}
        self.assertIsNone(check_program(CHAIN, [("use", "a")] * 40, parts=parts))
        self.check_place(40, [("use", "a")] * 41, parts=parts)
        self.check_place(40, [("use", "a")], parts={"a": [ASK] * 41})

    def test_repeats_4_and_5_deep(self):
        self.assertIsNone(check_program(CHAIN, nested(4, [ASK])))
        self.check_place(4, nested(5, []))
        self.check_place(6, [ASK] + nested(4, [ASK, ("repeat", 0, ()), ASK]))
        self.check_place(4, nested(6, [None]))
        # Behind the end of a repeat there is room for another one.
        self.assertIsNone(check_program(CHAIN, nested(3, [("repeat", 1, []), ("repeat", 1, [])])))
        self.check_place(8, nested(4, []) + nested(5, []))
        # Repeats in a part are counted by themselves.
        parts = {"a": nested(4, [("use", "b")]), "b": nested(4, [ASK])}
        self.assertIsNone(check_program(CHAIN, nested(4, [("use", "a")]), parts=parts))
        self.check_place(4, nested(4, [("use", "a")]), parts={"a": nested(5, [])})

    def test_missing_parts(self):
        for parts in (None, {}, {"b": [ASK]}):
            for program in ([("use", "a")], [ASK, ("repeat", 0, [("use", "a")]), None]):
                self.check_error(UnknownPart, {"name": "a"}, lambda: check_program(CHAIN, program, parts=parts))
        parts = {"a": [("use", "b")], "b": [ASK, ("use", "c")]}
        self.check_error(UnknownPart, {"name": "c"}, lambda: check_program(CHAIN, [("use", "a")], parts=parts))

    def test_parts_that_use_themselves(self):
        for name, parts in [
            ("a", {"a": [("use", "a")]}),
            ("a", {"a": [ASK, ("repeat", 0, [("use", "a")])]}),
            ("a", {"a": [("use", "b")], "b": [("use", "a")]}),
            ("a", {"a": [("use", "b")], "b": [("use", "c")], "c": [ASK, ("use", "a")]}),
            ("b", {"a": [("use", "b")], "b": [("use", "b")]}),
            ("b", {"a": [("use", "b")], "b": [("use", "c")], "c": [("use", "b")]}),
            ("b", {"a": [("use", "c"), ("use", "b")], "b": [("use", "c"), ("use", "b")], "c": []}),
        ]:
            self.check_error(CircularPart, {"name": name}, lambda: check_program(CHAIN, [("use", "a")], parts=parts))

    def test_parts_that_are_used_twice(self):
        parts = {"a": [("use", "b"), ("use", "b")], "b": [("use", "c")], "c": [ASK]}
        self.assertIsNone(check_program(CHAIN, [("use", "a"), ("use", "c"), ("use", "b"), ("use", "a")], parts=parts))
        # Each part is checked once, so this ends at once.
        parts = {chr(97 + at): [("use", chr(98 + at))] * 40 for at in range(19)}
        self.assertIsNone(check_program(CHAIN, [("use", "a")] * 40, parts={**parts, "t": [ASK]}))

    def test_parts_that_are_not_used(self):
        parts = {"a": [ASK], "b": [None], "c": [("use", "c")], "d": [("use", "z")], "e": [ASK] * 41}
        self.assertIsNone(check_program(CHAIN, [("use", "a")], parts=parts))

    def test_faults_in_parts(self):
        parts = {"a": [ASK, ("use", "b")], "b": [ASK, ASK, ("ask", 2, 7)]}
        self.check_place(2, [("use", "a")], parts=parts)
        self.assertIsNone(check_program(Chain((2,), (), ()), [("use", "a")], parts=parts))

    def test_the_first_fault_is_told(self):
        parts = {"a": [ASK, None], "b": [("use", "b")], "c": [("use", "z")], "d": [("use", "c"), None], "e": []}
        self.check_place(1, [("use", "a"), None], parts=parts)
        self.check_place(1, [ASK, None, ("use", "b")], parts=parts)
        self.check_place(1, [("use", "e"), ("ask", 5, 5), ("use", "z")], parts=parts)
        self.check_place(2, [("repeat", 1, [ASK, ("ask", 5, 5)]), ("use", "z")], parts=parts)
        for program, error_class, name in [
            ([("use", "b"), None], CircularPart, "b"),
            ([("use", "z"), ("use", "b")], UnknownPart, "z"),
            ([("use", "d"), None], UnknownPart, "z"),
            ([("use", "y"), ("use", "d")], UnknownPart, "y"),
            ([("repeat", 1, [("use", "b")]), ("repeat", -1, [])], CircularPart, "b"),
        ]:
            self.check_error(error_class, {"name": name}, lambda: check_program(CHAIN, program, parts=parts))
        # A repeat is told ahead of its body, and statement 40 ahead of what it uses.
        self.check_place(0, [("repeat", -1, [None])])
        self.check_place(40, [ASK] * 40 + [("use", "b")], parts=parts)

    def test_classes_of_the_errors(self):
        self.assertEqual([InvalidProgram.__bases__, CircularPart.__bases__, UnknownPart.__bases__],
                         [(ChainError,), (ChainError,), (NotFound,)])

    def test_arguments_stay(self):
        program, parts = [("repeat", 2, [ASK, ("use", "a")])], {"a": [ASK], "b": [("repeat", 1, [])]}
        before = copy.deepcopy((program, parts))
        self.assertIsNone(check_program(chain=CHAIN, program=program, parts=parts))
        self.assertEqual((program, parts), before)
        with self.assertRaises(TypeError):
            check_program(CHAIN, program, parts)


class TextTest(CaseWithErrors):

    def test_example_of_the_interface(self):
        program = [("fresh", 1, 3), ("repeat", 5, (("sweep", 0, 1, 9), ("use", "tail")))]
        self.assertEqual(program_text(program), "fresh 1 3\nrepeat 5\nsweep 0 1 9\nuse tail\nend")

    def test_texts(self):
        for program, text in [
            ([], ""),
            ([("ask", 0, 7)], "ask 0 7"),
            ([("ask", 3, -1)], "ask 3 -1"),
            ([("sweep", 0, 1, 9)], "sweep 0 1 9"),
            ([("fresh", 1, 3)], "fresh 1 3"),
            ([("use", "abcdefgh")], "use abcdefgh"),
            ([("repeat", 0, ())], "repeat 0\nend"),
            ([("repeat", 10 ** 30, (("use", "end"),))], "repeat 1000000000000000000000000000000\nuse end\nend"),
            ([("repeat", 1, (("repeat", 2, ()), ("repeat", 3, (("ask", 0, 0),)))), ("fresh", 0, 0)],
             "repeat 1\nrepeat 2\nend\nrepeat 3\nask 0 0\nend\nend\nfresh 0 0"),
        ]:
            self.assertEqual(program_text(program), text)
            self.assertEqual(program_text(tuple(program)), text)
            self.assertEqual(parse_program(text), program)

    def test_bodies_as_lists(self):
        self.assertEqual(program_text([("repeat", 2, [("repeat", 3, [ASK]), ASK])]),
                         "repeat 2\nrepeat 3\nask 0 7\nend\nask 0 7\nend")

    def test_arguments_stay(self):
        program = [("repeat", 2, [("repeat", 3, [ASK]), ASK])]
        before = copy.deepcopy(program)
        program_text(program=program)
        self.assertEqual(program, before)


class ParseTest(CaseWithErrors):

    def check_line(self, line, text):
        """Check that a text has no program, as the line with an index cannot stand there."""
        self.check_error(InvalidProgram, {"place": line}, parse_program, text)

    def test_kinds(self):
        program = parse_program("repeat 2\nrepeat 3\nask 0 7\nend\nend\nuse a")
        self.assertEqual(program, [("repeat", 2, (("repeat", 3, (("ask", 0, 7),)),)), ("use", "a")])
        self.assertIs(type(program), list)
        self.assertIs(type(program[0]), tuple)
        self.assertIs(type(program[0][2]), tuple)
        self.assertIs(type(program[0][2][0][2]), tuple)
        self.assertIs(type(parse_program("")), list)

    def test_the_list_is_new(self):
        first = parse_program("")
        first.append(ASK)
        self.assertEqual(parse_program(""), [])
        first = parse_program("ask 0 7")
        first.append(ASK)
        self.assertEqual(parse_program(text="ask 0 7"), [ASK])

    def test_what_is_written_is_read_again(self):
        generator = random.Random(15)
        for _ in range(300):
            program = random_program(generator, 4)
            self.assertEqual(parse_program(program_text(program)), program)

    def test_entries_from_0_to_3(self):
        for entry in range(4):
            self.assertEqual(parse_program(f"ask {entry} 1\nsweep {entry} 1 2\nfresh {entry} 1"),
                             [("ask", entry, 1), ("sweep", entry, 1, 2), ("fresh", entry, 1)])
        for line in ("ask 4 1", "sweep 4 1 2", "fresh 4 1", "ask -1 1", "sweep -1 1 2", "fresh -1 1"):
            self.check_line(0, line)

    def test_bounds(self):
        text = "ask 0 9999\nsweep 0 0 9999\nsweep 0 5 5\nfresh 0 50\nfresh 0 0\nrepeat 0\nend"
        self.assertEqual(program_text(parse_program(text)), text)
        for line in ("ask 0 10000", "ask 0 -2", "sweep 0 0 10000", "sweep 0 -1 5", "sweep 0 -1 -1", "sweep 0 5 4",
                     "fresh 0 51", "fresh 0 -1", "repeat -1", "repeat " + str(10 ** 30 + 1), "repeat 1" + "0" * 3000):
            self.check_line(0, line)
            self.check_line(0, line + "\nend")
            self.check_line(2, "repeat 2\nask 0 1\n" + line + "\nend")

    def test_broken_lines(self):
        for line in (
            "ask 00 7", "ask 0 07", "ask 0 007", "ask 0 -01", "ask 0 -0", "ask 0 +7", "ask 0 7.0", "ask 0 x",
            "ask 0 --1",
            "sweep 0 01 9", "sweep 0 1 09", "fresh 0 03", "repeat 05", "repeat 1e3", "repeat 1_0", "repeat x",
            "ask  0 7", "ask 0  7", " ask 0 7", "ask 0 7 ", "ask\t0\t7", "ask 0 7\r", "repeat 5 ", "repeat  5",
            " use a", "use a ", "use  a", "", " ", "end ", " end", "ends", "End", "ask", "ask 0", "ask 0 7 7",
            "ask -1", "sweep 0 1", "sweep 0 1 2 3", "fresh 0", "fresh 0 1 1", "repeat", "repeat 5 5", "repeat 5 ()",
            "use", "use A", "use a1", "use a b", "use abcdefghi", "use \u00e4", "ask \u0660 7", "ask 0 \u00b2",
            "Ask 0 7", "tail 0 7", "7", "0", "-1", "ask 0 7;", "('ask', 0, 7)",
        ):
            with self.subTest(line=line):
                if line != "":
                    self.check_line(0, line)
                self.check_line(0, line + "\nask 0 7")
                self.check_line(1, "ask 0 7\n" + line)
                self.check_line(1, "ask 0 7\n" + line + "\nask 0 7")
                self.check_line(2, "repeat 2\nask 0 7\n" + line + "\nend")

    def test_empty_lines(self):
        self.check_line(0, "\n")
        self.check_line(1, "ask 0 7\n")
        self.check_line(0, "\nask 0 7")
        self.check_line(2, "repeat 2\nend\n")

    def test_missing_ends(self):
        self.check_line(1, "repeat 2")
        self.check_line(3, "ask 0 7\nrepeat 2\nask 0 7")
        self.check_line(4, "repeat 2\nrepeat 3\nend\nask 0 7")
        self.check_line(2, "repeat 2\nrepeat 3")

    def test_additional_ends(self):
        self.check_line(0, "end")
        self.check_line(1, "ask 0 7\nend")
        self.check_line(2, "repeat 2\nend\nend\nask 0 7")
        self.check_line(4, "repeat 2\nrepeat 2\nend\nend\nend")

    def test_statement_40(self):
        self.assertEqual(parse_program("\n".join(["ask 0 7"] * 40)), [ASK] * 40)
        self.check_line(40, "\n".join(["ask 0 7"] * 41))
        # An end is no statement, but a line.
        text = "repeat 2\nend\n" * 39
        self.assertEqual(len(parse_program(text + "ask 0 7")), 40)
        self.assertEqual(len(parse_program(text + "repeat 2\nend")), 40)
        self.check_line(80, text + "repeat 2\nend\nask 0 7")
        self.check_line(79, text + "repeat 2\nask 0 7\nend")
        self.check_line(80, text + "repeat 2\nend\nend")
        self.check_line(79, text + "repeat 2")

    def test_repeats_4_and_5_deep(self):
        text = "repeat 2\n" * 4 + "ask 0 7\n" + "end\n" * 3 + "end"
        body = (ASK,)
        for _ in range(4):
            body = (("repeat", 2, body),)
        self.assertEqual(parse_program(text), list(body))
        self.check_line(4, "repeat 2\n" * 5 + "end\n" * 4 + "end")
        self.check_line(4, "repeat 2\n" * 6)
        text = "repeat 2\n" * 4 + "end\nrepeat 2\n" + "end\n" * 4
        self.assertEqual(program_text(parse_program(text[:-1])), text[:-1])
        self.check_line(6, "repeat 2\n" * 4 + "end\nrepeat 2\nrepeat 2\n")

    def test_changed_texts_are_other_programs_or_none(self):
        generator = random.Random(16)
        for _ in range(400):
            text = program_text(random_program(generator, 4))
            at = generator.randint(0, len(text))
            more = generator.choice(["", " ", "\n", "0", "-", "end", "\nend\n"])
            bent = text[:at] + more + text[at + generator.randint(0, 2):]
            try:
                program = parse_program(bent)
            except InvalidProgram as error:
                self.assertTrue(0 <= error.place <= len(bent.split("\n")))
            else:
                self.assertEqual(program_text(program), bent)


def random_program(generator, depth):
    """Return a program as parse_program returns it."""
    return list(random_body(generator, depth, 6))


def random_body(generator, depth, most):
    """Return a body with repeats nested so deep at most."""
    statements = []
    for _ in range(generator.randint(0, most)):
        first = generator.randint(0, 9999)
        statements.append(generator.choice([
            ("ask", generator.randint(0, 3), generator.randint(-1, 9999)),
            ("sweep", generator.randint(0, 3), first, generator.randint(first, 9999)),
            ("fresh", generator.randint(0, 3), generator.randint(0, 50)),
            ("use", generator.choice(["a", "end", "ask", "abcdefgh"])),
            ("repeat", generator.choice([0, 1, 10 ** 30]), ()),
        ]))
        if depth > 0 and generator.randint(0, 3) == 0:
            statements.append(("repeat", generator.randint(0, 99), random_body(generator, depth - 1, 2)))
    return tuple(statements)


if __name__ == "__main__":
    unittest.main()
