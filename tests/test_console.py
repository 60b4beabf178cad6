"""Point 20, and the section shelfdoors/console.py of the interface."""

import random
import unittest

from shelfdoors.chains import Chain
from shelfdoors.console import Console
from shelfdoors.rack import Rack
from shelfdoors.runs import Run


def filled():
    """Return a console whose rack has runs a and b."""
    console = Console()
    console.answer("open b - | -")
    console.answer("open a 1 3 2 | 2")
    console.answer("ask a 0 7")
    return console


class ConsoleCase(unittest.TestCase):

    def check(self, console, *dialogue):
        """Check the answers of a console to lines."""
        for line, expected in dialogue:
            with self.subTest(line=line):
                told = console.answer(line)
                self.assertIs(type(told), str)
                self.assertEqual(told, expected)
                self.assertEqual(console.said[-1], (line, expected))


class AnswerTest(ConsoleCase):

    def test_example_of_the_interface(self):
        console = Console()
        first = [console.answer("open a 1 2 | 3"), console.answer("ask a 0 7"), console.answer("ask a 0 7")]
        self.assertEqual(
            [first, console.answer("normal a"), console.answer("trim a"), console.answer("ask b 0 7"),
             console.answer("names ")],
            [["ok", "fetched", "hit 0 0"], "2 | 3", "0", "error UnknownName", "invalid"],
        )

    def test_open(self):
        console = Console(rack=Rack(limit=4))
        self.check(
            console, ("open a 2", "ok"), ("open b 2 3 | - | 12", "ok"), ("open c -", "ok"), ("chain b", "2 3 | - | 12"),
            ("open a 3", "error NameTaken"), ("open A 3", "error InvalidName"),
            ("open abcdefghi 3", "error InvalidName"),
            ("open - 3", "error InvalidName"), ("open a x", "error NameTaken"), ("open A x", "error InvalidName"),
            ("open d x", "error InvalidText"), ("open d 02", "error InvalidText"), ("open d 2 |", "error InvalidText"),
            ("open d 2 3 | 4 x 5", "error InvalidText"), ("open d 13", "error InvalidText"), ("open abcdefgh 1", "ok"),
            ("open d 1", "error RackFull"), ("open d x", "error InvalidText"), ("names", "a abcdefgh b c"),
        )
        self.assertEqual(console.rack().run_of("b"), Run(Chain((2, 3), (), (12,))))

    def test_close(self):
        self.check(filled(), ("close a", "ok"), ("names", "b"), ("close a", "error UnknownName"),
                   ("close A", "error UnknownName"), ("close -1", "error UnknownName"), ("close b", "ok"),
                   ("names", "none"))

    def test_rename(self):
        self.check(filled(), ("rename a c", "ok"), ("names", "b c"), ("fetches c", "1"),
                   ("rename a d", "error UnknownName"),
                   ("rename a A", "error UnknownName"), ("rename c A", "error InvalidName"),
                   ("rename c b", "error NameTaken"), ("rename c c", "error NameTaken"), ("rename c a", "ok"))

    def test_undo_and_redo(self):
        self.check(filled(), ("redo", "error NothingLeft"), ("undo", "ok"), ("fetches a", "0"), ("redo", "ok"),
                   ("fetches a", "1"), ("undo", "ok"), ("undo", "ok"), ("names", "b"), ("undo", "ok"),
                   ("names", "none"),
                   ("undo", "error NothingLeft"), ("redo", "ok"), ("names", "b"))

    def test_undo_and_redo_of_a_rack_that_is_full(self):
        console = filled()
        self.check(console, ("close a", "ok"))
        console.rack().limit = 1
        self.check(console, ("undo", "error RackFull"), ("names", "b"))
        console.rack().limit = 2
        self.check(console, ("undo", "ok"), ("undo", "ok"), ("undo", "ok"))
        console.rack().limit = 1
        self.check(console, ("redo", "error RackFull"), ("names", "b"), ("undo", "ok"), ("redo", "ok"))

    def test_lines_that_only_ask_are_no_steps(self):
        console = filled()
        self.check(console, ("names", "a b"), ("chain a", "1 3 2 | 2"), ("normal a", "3 | 2"), ("fetches a", "1"),
                   ("holders a 7", "0:0 0:1 0:2 1:0"), ("what", "invalid"), ("close z", "error UnknownName"))
        self.assertEqual(console.rack().history(), (3, 0))

    def test_trim(self):
        self.check(filled(), ("trim a", "1"), ("chain a", "1 3 | 2"), ("trim a", "0"), ("trim b", "0"),
                   ("trim c", "error UnknownName"), ("undo", "ok"), ("undo", "ok"), ("undo", "ok"),
                   ("chain a", "1 3 2 | 2"), ("open c" + " 1" * 12, "ok"), ("trim c", "11"))

    def test_ask(self):
        self.check(filled(), ("ask a 0 7", "hit 0 0"), ("ask a 1 7", "hit 1 0"), ("ask a 0 8", "fetched"),
                   ("ask a 0 7", "hit 0 1"), ("ask a 1 9", "fetched"), ("ask a 0 9", "hit 1 0"),
                   ("ask a 0 -1", "fetched"),
                   ("ask a 0 -1", "fetched"), ("fetches a", "5"), ("ask a 0 9999", "fetched"), ("ask a 0 0", "fetched"),
                   ("ask b 1 0", "fetched"), ("ask b 1 0", "fetched"))

    def test_errors_of_ask(self):
        self.check(filled(), ("ask c 0 7", "error UnknownName"), ("ask c 9 10000", "error UnknownName"),
                   ("ask A 0 7", "error UnknownName"), ("ask 0 0 7", "error UnknownName"),
                   ("ask a 2 7", "error InvalidEntry"),
                   ("ask a -1 7", "error InvalidEntry"), ("ask a -1 10000", "error InvalidEntry"),
                   ("ask a 999999 7", "error InvalidEntry"), ("ask a 0 10000", "error InvalidItem"),
                   ("ask a 1 999999", "error InvalidItem"), ("fetches a", "1"))

    def test_numbers(self):
        console = filled()
        for word in ("1000000", "9" * 40, "1" + "0" * 3000, "07", "00", "-2", "-01", "-0", "--1", "+7", "7.0", "x",
                     "1e3", "-",
                     "0x7", "7\t", "\u0667", "\u00b2", "1_0", "-10000"):
            self.check(console, (f"ask a 0 {word}", "invalid"), (f"ask a {word} 7", "invalid"),
                       (f"ask c 0 {word}", "invalid"), (f"ask c {word} 7", "invalid"), (f"holders a {word}", "invalid"),
                       (f"holders c {word}", "invalid"))
        self.check(console, ("fetches a", "1"), ("ask a 100000 7", "error InvalidEntry"),
                   ("ask a 0 100000", "error InvalidItem"), ("holders a 100000", "error InvalidItem"))

    def test_names(self):
        self.check(Console(), ("names", "none"), ("open b 1", "ok"), ("names", "b"), ("open aa 1", "ok"),
                   ("names", "aa b"),
                   ("open none 1", "ok"), ("close b", "ok"), ("close aa", "ok"), ("names", "none"))

    def test_chain_and_normal(self):
        self.check(filled(), ("chain a", "1 3 2 | 2"), ("normal a", "3 | 2"), ("chain b", "- | -"),
                   ("normal b", "- | -"),
                   ("chain c", "error UnknownName"), ("normal c", "error UnknownName"),
                   ("normal A", "error UnknownName"))

    def test_fetches(self):
        self.check(filled(), ("fetches a", "1"), ("fetches b", "0"), ("fetches c", "error UnknownName"),
                   ("ask b 0 7", "fetched"), ("ask a 0 7", "hit 0 0"), ("fetches a", "1"), ("fetches b", "1"),
                   ("trim a", "1"), ("fetches a", "1"), ("close a", "ok"), ("open a 1", "ok"), ("fetches a", "0"))

    def test_holders(self):
        self.check(filled(), ("holders a 7", "0:0 0:1 0:2 1:0"), ("ask a 0 8", "fetched"), ("ask a 0 9", "fetched"),
                   ("holders a 7", "0:1"), ("holders a 8", "0:1 0:2 1:0"), ("holders a 5", "none"),
                   ("holders b 7", "none"), ("holders a -1", "error InvalidItem"),
                   ("holders a 10000", "error InvalidItem"),
                   ("holders c -1", "error UnknownName"), ("holders c 7", "error UnknownName"),
                   ("holders a 9999", "none"),
                   ("open c" + " 1" * 10 + " 5 6", "ok"), ("ask c 0 0", "fetched"), ("ask c 0 1", "fetched"),
                   ("holders c 0", "0:10 0:11"))

    def test_more_and_fewer_words(self):
        console = filled()
        for line in ("open", "open c", "close", "close a b", "rename", "rename a", "rename a c d", "undo 1", "undo a",
                     "redo 1",
                     "trim", "trim a b", "ask", "ask a", "ask a 0", "ask a 0 7 7", "names a", "chain", "chain a b",
                     "normal", "normal a b", "fetches", "fetches a b", "holders", "holders a", "holders a 7 7"):
            self.check(console, (line, "invalid"))
        self.assertEqual(console.rack(), filled().rack())

    def test_unknown_words(self):
        console = filled()
        for line in ("what", "Open c 1", "OPEN c 1", "clos a", "closes a", "undo\n", "names\t", "limit 5", "a", "7",
                     "-",
                     "invalid", "ok", "error UnknownName", "None"):
            self.check(console, (line, "invalid"))
        self.assertEqual(console.rack(), filled().rack())

    def test_additional_blanks_and_empty_lines(self):
        console = filled()
        for line in ("", " ", "  ", "names ", " names", "undo ", " undo", "close  a", "close a ", " close a",
                     "open c  1",
                     "open c 1 ", "open c 1  | 2", "open  c 1", "ask a 0  7", "ask a  0 7", "ask a 0 7 ", "rename a  c",
                     "trim a ", "chain  a", "holders a  7"):
            self.check(console, (line, "invalid"))
        self.assertEqual(console.rack(), filled().rack())

    def test_any_word_may_be_a_name(self):
        for word in ("a1", "|", "-", "A", "abcdefghi", "7", "\u00e4", "a\tb", "none"):
            self.check(filled(), (f"close {word}", "error UnknownName"), (f"ask {word} 0 7", "error UnknownName"),
                       (f"chain {word}", "error UnknownName"), (f"holders {word} 7", "error UnknownName"))
        for word in ("a1", "|", "-", "A", "abcdefghi", "7", "\u00e4", "a\tb"):
            self.check(filled(), (f"open {word} 1", "error InvalidName"), (f"rename a {word}", "error InvalidName"))


class ConsoleTest(ConsoleCase):

    def test_a_new_rack(self):
        self.assertEqual(Console().rack(), Rack())
        self.assertEqual(Console(rack=None).rack(), Rack())
        one, other = Console(), Console()
        self.assertIsNot(one.rack(), other.rack())
        one.answer("open a 1")
        self.assertEqual(other.answer("names"), "none")

    def test_the_very_rack(self):
        # An empty rack has no length, and is used all the same.
        for rack in (Rack(), Rack(limit=1), filled().rack()):
            console = Console(rack=rack)
            self.assertIs(console.rack(), rack)
            console.answer("open z 1")
            self.assertIn("z", rack.names())
            rack.apply(("ask", "z", 0, 7))
            self.assertEqual(console.answer("fetches z"), "1")

    def test_two_consoles_of_one_rack(self):
        rack = Rack()
        one, other = Console(rack=rack), Console(rack=rack)
        self.check(one, ("open a 2", "ok"), ("ask a 0 7", "fetched"))
        self.check(other, ("ask a 0 7", "hit 0 0"), ("undo", "ok"), ("undo", "ok"), ("ask a 0 7", "fetched"))
        self.check(one, ("fetches a", "1"))
        self.assertEqual([len(one.said), len(other.said)], [3, 4])

    def test_said(self):
        console = Console()
        self.assertEqual(console.said, [])
        lines = ["open a 2", "", "open a 2", "ask a 0 7", "what", "ask a 0 7"]
        answers = [console.answer(line) for line in lines]
        self.assertEqual(answers, ["ok", "invalid", "error NameTaken", "fetched", "invalid", "hit 0 0"])
        said = console.said
        self.assertEqual(said, list(zip(lines, answers)))
        self.assertTrue(all(type(pair) is tuple for pair in said))
        said.append("more")
        self.assertEqual(console.said, list(zip(lines, answers)))
        with self.assertRaises(AttributeError):
            console.said = []

    def test_arguments_by_name(self):
        self.assertEqual(Console(rack=Rack()).answer(line="names"), "none")
        with self.assertRaises(TypeError):
            Console(Rack())

    def test_random_dialogues(self):
        generator = random.Random(20)
        for _ in range(20):
            console, rack = Console(rack=Rack(limit=2)), Rack(limit=2)
            for _ in range(60):
                name, other = generator.choice("abc"), generator.choice("abc")
                entry, item = generator.randint(-1, 2), generator.randint(-1, 4)
                line, call = generator.choice([
                    (f"open {name} 1 2 1 | 2", lambda: rack.apply(("open", name, "1 2 1 | 2"))),
                    (f"ask {name} {entry} {item}", lambda: rack.apply(("ask", name, entry, item))),
                    (f"ask {name} 0 {item}", lambda: rack.apply(("ask", name, 0, item))),
                    (f"trim {name}", lambda: rack.apply(("trim", name))),
                    (f"rename {name} {other}", lambda: rack.apply(("rename", name, other))),
                    (f"close {name}", lambda: rack.apply(("close", name))), ("undo", rack.undo), ("redo", rack.redo),
                ])
                try:
                    result = call()
                    word = line.split(" ")[0]
                    if word == "ask":
                        expected = "fetched" if result is None else "hit {} {}".format(*result)
                    else:
                        expected = str(result) if word == "trim" else "ok"
                except (ValueError, LookupError) as error:
                    expected = f"error {type(error).__name__}"
                self.assertEqual(console.answer(line), expected)
                self.assertEqual([console.rack(), console.rack().history()], [rack, rack.history()])


if __name__ == "__main__":
    unittest.main()
