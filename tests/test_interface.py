"""The places, names and parameters of the interface."""

import importlib
import inspect
import unittest
from pathlib import Path

import shelfdoors

FUNCTIONS = {
    "normal": {
        "is_covered": "(chain, level)", "is_idle": "(chain, level)", "removable": "(chain)",
        "is_normal": "(chain)", "normal_chain": "(chain)", "reduction": "(chain)",
        "is_reduction": "(chain, steps)", "are_alike": "(one, other)",
    },
    "numbering": {
        "count_normal": "(entries, *, most=12)", "number_of": "(chain, *, most=12)",
        "chain_at": "(number, entries, *, most=12)",
    },
    "reasons": {"explanation": "(chain, requests)"},
    "separate": {"separating": "(one, other)", "is_separating": "(one, other, requests)"},
    "programs": {
        "check_program": "(chain, program, *, parts=None)", "program_text": "(program)", "parse_program": "(text)",
    },
    "carry": {
        "carry_out": "(chain, program, *, parts=None)", "cyclic_fetches": "(chain, entry, many, rounds)",
    },
    "hidden": {"identify": "(hidden, *, most=12)"},
    "documents": {"rack_text": "(rack)", "read_rack": "(text)"},
}
METHODS = {
    ("chains", "Chain"): {
        "__init__": "(self, *segments)", "__len__": None, "__eq__": None, "__str__": None,
        "__repr__": None, "__getitem__": None, "__contains__": None, "__add__": None, "__mul__": None,
        "behind": "(self, entry)", "without_level": "(self, level)", "without_entry": "(self, entry)",
        "with_entry": "(self, level)", "read": "(cls, text)", "plain": "(*capacities)",
        "segments": None, "entries": None, "MAX_SEGMENTS": None, "MAX_LEVELS": None, "MAX_CAPACITY": None,
    },
    ("runs", "Run"): {
        "__init__": "(self, chain)", "__len__": None, "__eq__": None, "__repr__": None,
        "resume": "(cls, chain, contents)", "chain": None, "contents": None, "fetches": None, "hits": None,
        "request": "(self, entry, item)", "request_all": "(self, requests)", "preview": "(self, requests)",
        "holders": "(self, item)", "log": "(self)", "remove_level": "(self, level)", "undo": "(self)",
        "redo": "(self)", "history": "(self)", "clone": "(self)",
    },
    ("runs", "TracedRun"): {"resume": "(cls, chain, contents)", "fetched": "(self)", "clone": "(self)"},
    ("carry", "Outcome"): {"__init__": "(self, made, missed, final)", "__eq__": None, "hits": None},
    ("hidden", "Hidden"): {
        "__init__": "(self, chain, *, warm=())", "ask": "(self, entry, item)", "entries": None, "asked": None,
    },
    ("rack", "Rack"): {
        "__init__": "(self, *, limit=6)", "__len__": None, "__eq__": None, "__repr__": None, "limit": None,
        "set_limit": "(self, limit)", "total": None, "apply": "(self, command)", "apply_all": "(self, *commands)",
        "undo": "(self)", "redo": "(self)", "history": "(self)", "names": "(self)", "run_of": "(self, name)",
        "fetches_of": "(self, name)", "clone": "(self)",
    },
    ("console", "Console"): {
        "__init__": "(self, *, rack=None)", "answer": "(self, line)", "rack": "(self)", "said": None,
    },
}

PROPERTIES = {
    "segments", "entries", "chain", "contents", "fetches", "hits", "asked", "limit", "total", "said",
}


class InterfaceTest(unittest.TestCase):

    def test_functions_are_defined_in_their_files(self):
        for file, functions in FUNCTIONS.items():
            module = importlib.import_module(f"shelfdoors.{file}")
            for name, parameters in functions.items():
                with self.subTest(name=name):
                    function = getattr(module, name)
                    self.assertTrue(inspect.isfunction(function))
                    self.assertEqual(function.__module__, module.__name__)
                    self.assertEqual(str(inspect.signature(function)), parameters)

    def test_properties(self):
        for (file, title), methods in METHODS.items():
            own = vars(getattr(importlib.import_module(f"shelfdoors.{file}"), title))
            for name in PROPERTIES & set(methods):
                self.assertIsInstance(own[name], property)

    def test_methods_are_defined_in_their_classes(self):
        for (file, title), methods in METHODS.items():
            module = importlib.import_module(f"shelfdoors.{file}")
            own = vars(getattr(module, title))
            self.assertEqual(getattr(module, title).__module__, module.__name__)
            for name, parameters in methods.items():
                with self.subTest(name=name):
                    self.assertIn(name, own)
                    if parameters is not None:
                        function = getattr(own[name], "__func__", own[name])
                        self.assertEqual(str(inspect.signature(function)), parameters)


class FilesTest(unittest.TestCase):
    """Rules L1, L10 and L14 of the language, as far as a few lines can check them."""

    def test_files(self):
        folder = Path(shelfdoors.__file__).parent
        for path in sorted(folder.iterdir()):
            if path.name == "__pycache__":
                continue
            with self.subTest(path=path.name):
                self.assertEqual(path.suffix, ".py")
                text = path.read_text(encoding="utf-8")
                self.assertTrue(all(char == "\n" or " " <= char <= "~" for char in text))
                lines = text.splitlines()
                self.assertLessEqual(len(lines), 399)
                self.assertLessEqual(max([len(line) for line in lines], default=0), 120)


if __name__ == "__main__":
    unittest.main()
