"""The section shelfdoors/errors.py of the interface."""

import unittest

from shelfdoors import errors

CHAIN_ERRORS = {
    "InvalidChain": "segment",
    "InvalidText": None,
    "InvalidEntry": "entry",
    "InvalidItem": "item",
    "NotRemovable": "level",
    "EntriesDiffer": None,
    "InvalidNumber": "number",
    "InvalidBound": "bound",
    "InvalidContents": None,
    "InvalidProgram": "place",
    "CircularPart": "name",
    "TooManyRounds": "limit",
    "TooManySteps": "limit",
    "NothingLeft": None,
    "InvalidName": "name",
    "NameTaken": "name",
    "RackFull": "limit",
    "InvalidCommand": "word",
    "InvalidDocument": "line",
}
NOT_FOUND = {"NoLevel": "level", "UnknownPart": "name", "UnknownName": "name"}
SAMPLES = {
    "segment": [-1, 0, 3],
    "entry": [7, -1, True, "x", None],
    "item": [10000, -2, False, "7"],
    "level": [(0, 3), (-1, 0)],
    "number": [-1, 10 ** 39],
    "bound": [0, 13, True],
    "place": [0, 40],
    "name": ["abc", "", "A"],
    "limit": [8, 10000],
    "word": ["jump", None],
    "line": [0, 12],
}


def make(name, field, value):
    """Return the error of a name, with a value if it has a field."""
    return getattr(errors, name)() if field is None else getattr(errors, name)(value)


class ErrorsTest(unittest.TestCase):

    def check_family(self, base, family):
        for name, field in family.items():
            with self.subTest(name=name):
                self.assertEqual(getattr(errors, name).__bases__, (base,))
                self.assertEqual(getattr(errors, name).__module__, "shelfdoors.errors")
                for value in SAMPLES.get(field, [None]):
                    error = make(name, field, value)
                    self.assertEqual(error.code, name)
                    self.assertIn("code", vars(error))
                    if field is not None:
                        self.assertIs(getattr(error, field), value)
                        self.assertIn(field, vars(error))

    def test_base_classes(self):
        self.assertEqual(errors.ChainError.__bases__, (ValueError,))
        self.assertEqual(errors.NotFound.__bases__, (LookupError,))

    def test_chain_errors(self):
        self.check_family(errors.ChainError, CHAIN_ERRORS)

    def test_not_found(self):
        self.check_family(errors.NotFound, NOT_FOUND)

    def test_there_are_twenty_two(self):
        found = [
            name for name, value in vars(errors).items()
            if isinstance(value, type) and value not in (errors.ChainError, errors.NotFound)
        ]
        self.assertEqual(sorted(found), sorted([*CHAIN_ERRORS, *NOT_FOUND]))
        self.assertEqual(len(found), 22)

    def test_parameters_have_their_names(self):
        for name, field in {**CHAIN_ERRORS, **NOT_FOUND}.items():
            with self.subTest(name=name):
                values = {} if field is None else {field: SAMPLES[field][0]}
                error = getattr(errors, name)(**values)
                self.assertEqual(vars(error), {**values, "code": name})

    def test_wrong_numbers_of_arguments(self):
        for name, field in {**CHAIN_ERRORS, **NOT_FOUND}.items():
            with self.subTest(name=name):
                with self.assertRaises(TypeError):
                    getattr(errors, name)(*([1] if field is None else []))

    def test_a_level_is_a_pair_of_its_own(self):
        for name in ("NoLevel", "NotRemovable"):
            level = [0, 3]
            error = getattr(errors, name)(level)
            level.append(4)
            self.assertEqual(error.level, (0, 3))

    def test_each_can_be_raised_and_caught_by_its_base(self):
        for base, family in ((errors.ChainError, CHAIN_ERRORS), (errors.NotFound, NOT_FOUND)):
            for name, field in family.items():
                with self.subTest(name=name):
                    with self.assertRaises(base):
                        raise make(name, field, SAMPLES.get(field, [None])[0])


if __name__ == "__main__":
    unittest.main()
