"""Point 19, and the section shelfdoors/documents.py of the interface."""

import random
import unittest

from shelfdoors.chains import Chain
from shelfdoors.documents import rack_text, read_rack
from shelfdoors.errors import ChainError, InvalidDocument
from shelfdoors.rack import Rack
from shelfdoors.runs import Run
from tests.support import CaseWithErrors, sample_chains

TEXT = (
    "rack 3\n"
    "run a 2 1 | - | 3\n"
    "level 1 2\n"
    "level -1\n"
    "level -1 9999 -1\n"
    "run bb - | -\n"
    "run c 2 | 12\n"
    "level\n"
    "level 0\n"
)
# For each line of TEXT other lines that cannot stand there.
HEADS = ["", "rack", "rack ", "rack 0", "rack 13", "rack 03", "rack -1", "rack 3 ", "rack  3", " rack 3", "rack 3 3",
         "rack x", "Rack 3", "run 3", "3", "rack 3\r", "rack 1" + "0" * 3000, "rack \u0663"]
RUNS = ["", "run", "run a", "run a ", "run  2", "run A 2", "run a1 2", "run abcdefghi 2", "run \u00e4 2", "run a  2",
        "run a 0", "run a 13", "run a 02", "run a 2 ", " run a 2", "run a 2  3", "run a 2 |", "run a 2|3", "Run a 2",
        "run a | 2", "run a 2 | - -", "run a 1 | 1 | 1 | 1 | 1", "run a" + " 1" * 13, "level", "level 1", "rack 3",
        "a 2", "run a x", "run a 2\t", "run - 2"]
LEVELS = ["", "level ", "level  1", " level 1", "level 1 ", "level 01", "level 00", "level -2", "level -01",
          "level --1",
          "level +1", "level x", "level 10000", "level 1" + "0" * 3000, "level 5 5", "level 1 -1 1", "level 1\t",
          "level 1,2", "Level 1", "1", "run d 2", "rack 3", "level1", "level 1.0", "level \u0661",
          "level" + " -1" * 13, "level 1 2 3 4 5 6 7 8 9 10 11 12 13"]


def sample_rack():
    """Return a rack that is nearly that of TEXT, made by commands."""
    rack = Rack(limit=3)
    rack.apply_all(("open", "c", "2 | 12"), ("open", "a", "2 1 | - | 3"), ("open", "bb", "- | -"))
    rack.apply_all(("ask", "c", 1, 0), ("ask", "a", 0, 1), ("ask", "a", 0, 2), ("ask", "a", 1, -1),
                   ("ask", "a", 2, 9999), ("ask", "a", 2, -1))
    return rack


class TextTest(CaseWithErrors):

    def test_racks_without_runs(self):
        self.assertEqual(rack_text(Rack()), "rack 6\n")
        self.assertEqual(rack_text(Rack(limit=12)), "rack 12\n")

    def test_runs_in_ascending_order(self):
        rack = Rack(limit=12)
        for name in ("b", "zz", "a", "aa", "abcdefgh"):
            rack.apply(("open", name, "- | -"))
        self.assertEqual(rack_text(rack), "rack 12\nrun a - | -\nrun aa - | -\nrun abcdefgh - | -\nrun b - | -\n"
                                          "run zz - | -\n")

    def test_empty_and_full_levels_and_anonymous_items(self):
        rack = Rack()
        rack.apply_all(("open", "a", "1 3 | - | 2"), ("ask", "a", 0, 9999), ("ask", "a", 0, -1), ("ask", "a", 2, 0))
        self.assertEqual(rack_text(rack), "rack 6\nrun a 1 3 | - | 2\nlevel -1\nlevel 9999 -1\nlevel -1 0\n")
        rack.apply(("open", "b", "12 | 1"))
        self.assertEqual(rack_text(rack).split("\n")[5:], ["run b 12 | 1", "level", "level", ""])

    def test_the_sample(self):
        rack = sample_rack()
        rack.apply(("ask", "a", 2, -1))
        self.assertEqual(rack_text(rack).split("\n")[4], "level 9999 -1 -1")

    def test_arguments_stay(self):
        rack = sample_rack()
        self.assertEqual(rack_text(rack=rack), rack_text(rack))
        self.assertEqual([rack, rack.history(), rack.total], [sample_rack(), (2, 0), sample_rack().total])


class ReadTest(CaseWithErrors):

    def check_line(self, line, text):
        """Check that a text is not that of a rack, and which line is wrong."""
        self.check_error(InvalidDocument, {"line": line}, read_rack, text)

    def check_instead(self, at, line, text=TEXT):
        """Check that a line cannot stand in a text instead of that at an index."""
        lines = text.split("\n")
        with self.subTest(at=at, line=line):
            self.check_line(at, "\n".join(lines[:at] + [line] + lines[at + 1:]))
            self.check_line(at, "\n".join(lines[:at] + [line, ""]))
            if line != "":
                self.check_line(at, "\n".join(lines[:at] + [line]))
            # A later line does not matter.
            self.check_line(at, "\n".join(lines[:at] + [line] + ["nothing"] + lines[at + 1:]))

    def test_reading(self):
        rack = read_rack(TEXT)
        self.assertIs(type(rack), Rack)
        self.assertEqual([rack.limit, rack.names(), len(rack)], [3, ["a", "bb", "c"], 3])
        self.assertEqual(rack.run_of("a"), Run.resume(
            Chain.read("2 1 | - | 3"), (((1, 2), (-1,)), (), ((-1, 9999, -1),))))
        self.assertEqual(rack.run_of("bb"), Run(Chain.read("- | -")))
        self.assertEqual(rack.run_of("c"), Run.resume(Chain.read("2 | 12"), (((),), ((0,),))))
        self.assertEqual(rack_text(rack), TEXT)

    def test_what_is_read_has_no_requests_and_no_steps(self):
        rack = read_rack(TEXT)
        self.assertEqual([rack.history(), rack.total, [rack.fetches_of(name) for name in rack.names()]],
                         [(0, 0), 0, [0, 0, 0]])
        self.assertEqual([len(rack.run_of(name)) for name in rack.names()], [0, 0, 0])

    def test_what_is_read_goes_on(self):
        rack = read_rack(TEXT)
        self.assertEqual(rack.apply_all(("ask", "a", 0, 2), ("ask", "a", 0, 5), ("trim", "a"), ("close", "bb")),
                         [(0, 0), None, 1, None])
        self.assertEqual([rack.fetches_of("a"), rack.total], [1, 1])
        self.assertEqual(rack_text(rack), "rack 3\nrun a 2 | - | 3\nlevel 2 5\nlevel 9999 -1 5\nrun c 2 | 12\nlevel\n"
                                          "level 0\n")
        rack.undo()
        self.assertEqual([rack_text(rack), rack.total], [TEXT, 0])

    def test_what_is_written_is_read_again(self):
        for rack in (Rack(), Rack(limit=1), Rack(limit=12), sample_rack()):
            again = read_rack(rack_text(rack))
            self.assertEqual(again, rack)
            self.assertEqual([again.limit, again.names(), again.history()], [rack.limit, rack.names(), (0, 0)])

    def test_random_racks(self):
        generator = random.Random(19)
        for _ in range(60):
            rack = Rack(limit=generator.randint(1, 12))
            for at in range(generator.randint(0, rack.limit)):
                chain = generator.choice(sample_chains())
                rack.apply(("open", generator.choice("abc") + chr(97 + at), str(chain)))
                for _ in range(generator.choice([0, 3, 40])):
                    rack.apply(("ask", rack.names()[-1], 0, generator.randint(-1, 20)))
            text = rack_text(rack)
            again = read_rack(text)
            self.assertEqual(again, rack)
            self.assertEqual(rack_text(again), text)
            self.assertTrue(text.endswith("\n"))

    def test_what_no_request_leaves_can_be_read(self):
        # A level may hold what the levels ahead of it do not.
        rack = read_rack("rack 1\nrun a 2 3 | 1\nlevel\nlevel 4 5 6\nlevel 7\n")
        self.assertEqual(rack.run_of("a").contents, (((), (4, 5, 6)), ((7,),)))

    def test_broken_first_lines(self):
        for line in HEADS:
            self.check_instead(0, line)
            self.check_instead(0, line, "rack 3\n")

    def test_broken_lines_of_runs(self):
        for line in RUNS:
            self.check_instead(1, line)
            for at in (5, 6):
                self.check_instead(at, line.replace("run a", "run bc"))

    def test_broken_lines_of_levels(self):
        for line in LEVELS:
            for at in (2, 4, 7, 8):
                self.check_instead(at, line)

    def test_more_items_than_the_capacity(self):
        self.check_instead(2, "level 1 2 3")
        self.check_instead(3, "level 1 2")
        self.check_instead(4, "level -1 -1 -1 -1")
        self.check_instead(7, "level 1 2 3")
        self.check_instead(8, "level" + "".join([f" {item}" for item in range(13)]))
        full = "level" + "".join([f" {item}" for item in range(12)])
        self.assertEqual(read_rack(TEXT.replace("level 0", full)).run_of("c").holders(11), [(1, 0)])

    def test_an_item_twice_in_one_level(self):
        self.check_instead(2, "level 1 1")
        self.check_instead(4, "level 9999 -1 9999")
        self.check_instead(8, "level 1 2 3 4 5 6 7 8 9 10 11 1")
        # Anonymous items are different, and other levels may hold the same item.
        text = "rack 1\nrun a 3 3 | 3\nlevel -1 -1 5\nlevel 5 -1 -1\nlevel 5\n"
        self.assertEqual(rack_text(read_rack(text)), text)

    def test_names_in_wrong_order_and_twice(self):
        self.check_instead(5, "run a - | -")
        self.check_instead(6, "run bb 2 | 12")
        self.check_instead(6, "run b 2 | 12")
        self.check_instead(6, "run a 2 | 12")
        self.check_line(2, "rack 12\nrun ab -\nrun aa -\nrun ac -\n")
        self.assertEqual(read_rack("rack 12\nrun a -\nrun aa -\nrun ab -\nrun b -\n").names(), ["a", "aa", "ab", "b"])

    def test_more_runs_than_the_limit(self):
        for limit in (1, 2, 11, 12):
            names = [chr(97 + at) for at in range(limit + 1)]
            text = f"rack {limit}\n" + "".join([f"run {name} -\n" for name in names[:-1]])
            self.assertEqual(read_rack(text).names(), names[:-1])
            self.check_line(limit + 1, text + f"run {names[-1]} -\n")
        self.check_line(6, TEXT.replace("rack 3", "rack 2"))
        self.check_line(5, TEXT.replace("rack 3", "rack 1"))

    def test_missing_lines(self):
        lines = TEXT.split("\n")[:-1]
        self.check_line(0, "")
        for many in (2, 3, 4, 7, 8):
            self.check_line(many, "\n".join(lines[:many]) + "\n")
        for many in (1, 5, 6, 9):
            text = "\n".join(lines[:many]) + "\n"
            self.assertEqual(rack_text(read_rack(text)), text)
        # A line that is left out in between lets the next one stand at its place.
        for at, line in [(0, 0), (1, 1), (2, 3), (3, 3), (4, 4), (6, 6), (7, 8), (8, 8)]:
            self.check_line(line, "\n".join(lines[:at] + lines[at + 1:]) + "\n")

    def test_a_missing_line_feed_at_the_end(self):
        lines = TEXT.split("\n")[:-1]
        for many in range(1, 10):
            self.check_line(many - 1, "\n".join(lines[:many]))
        self.check_line(0, "rack 6")

    def test_additional_lines(self):
        for more in ("", " ", "level", "level 1", "rack 3", "x", "end"):
            self.check_line(9, TEXT + more + "\n")
            self.check_line(1, "rack 3\n" + more + "\n")
            self.check_line(6, TEXT.replace("run c", more + "\nrun c"))
        self.check_line(5, TEXT.replace("run bb", "level\nrun bb"))
        self.check_line(9, TEXT + "\n\n")
        self.check_line(0, "\n" + TEXT)
        self.check_line(9, TEXT + " ")
        self.check_line(9, TEXT + "run d -")

    def test_each_changed_character_is_told_by_its_line_or_read(self):
        for at, old in enumerate(TEXT):
            for new in ("", " ", "0", "\n", "-", "x", old + old):
                text = TEXT[:at] + new + TEXT[at + 1:]
                if text == TEXT:
                    continue
                line = TEXT[:at].count("\n")
                with self.subTest(at=at, new=new):
                    try:
                        rack = read_rack(text)
                    except InvalidDocument as error:
                        self.assertGreaterEqual(error.line, line)
                        self.assertLessEqual(error.line, text.count("\n"))
                    else:
                        self.assertEqual(rack_text(rack), text)

    def test_class_of_the_error(self):
        self.assertEqual(InvalidDocument.__bases__, (ChainError,))

    def test_racks_are_new(self):
        first = read_rack(text=TEXT)
        first.apply(("close", "a"))
        self.assertEqual(read_rack(TEXT).names(), ["a", "bb", "c"])


if __name__ == "__main__":
    unittest.main()
