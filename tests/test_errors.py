"""Point 17, and what point 2 says of errors."""

import ast
import pathlib
import unittest

from metonce import errors
from tests.samples import DUO, any_values

NAMES = (
    "BadHall NoPerson Alone BadEvent BadTimeline BadSaying BadSayings Full NoSaying OtherHall BadCases "
    "NoTimeline BadClaim BadNumber BadOrder BadOffers BadWishes Contrary NothingToUndo NothingToRedo "
    "NoTrial BadJournal BadLine"
).split()


class ErrorsTest(unittest.TestCase):
    def test_meet_error_derives_directly_from_value_error(self):
        self.assertEqual(errors.MeetError.__bases__, (ValueError,))

    def test_all_others_derive_directly_from_meet_error(self):
        for name in NAMES:
            self.assertEqual(getattr(errors, name).__bases__, (errors.MeetError,), name)

    def test_each_has_its_own_name_and_file(self):
        for name in ["MeetError", *NAMES]:
            kind = getattr(errors, name)
            self.assertEqual((kind.__name__, kind.__module__), (name, "metonce.errors"))

    def test_the_file_defines_no_other_class(self):
        tree = ast.parse(pathlib.Path(errors.__file__).read_text(encoding="utf-8"))
        defined = [node.name for node in tree.body if isinstance(node, ast.ClassDef)]
        self.assertEqual(sorted(defined), sorted(["MeetError", *NAMES]))

    def test_each_keeps_any_value(self):
        for name in ["MeetError", *NAMES]:
            for value in any_values():
                error = getattr(errors, name)(value)
                self.assertIs(error.value, value)

    def test_each_is_caught_as_what_it_derives_from(self):
        for name in NAMES:
            kind = getattr(errors, name)
            for wide in (kind, errors.MeetError, ValueError):
                with self.assertRaises(wide) as caught:
                    raise kind(DUO)
                self.assertIs(caught.exception.value, DUO)

    def test_none_is_caught_as_another_one(self):
        for name in NAMES:
            for other in NAMES:
                self.assertEqual(issubclass(getattr(errors, name), getattr(errors, other)), name == other)


if __name__ == "__main__":
    unittest.main()
