"""Point 18: the errors, and what point 2 says of them."""

import inspect
import unittest

from oneedition import errors
from oneedition.errors import KeeperError
from tests.helper import any_values

KEPT = {
    "BadSpans": "value", "BadCopies": "value", "BadPiece": "value", "BadCount": "value", "BadWord": "value",
    "BadLength": "value", "BadTime": "value", "BadNames": "value", "BadStart": "value", "BadBytes": "value",
    "BadText": "line", "NoCopy": "value", "NoAsk": "value", "NoMark": "number", "NoAnswer": "value",
    "NoHead": "value", "NoWord": "value", "Ended": "number", "Flowing": "number", "Contradiction": "numbers",
    "NotYet": None, "Broken": "number", "Closed": None, "TooMany": "limit",
}
WITH_ARGUMENT = [(getattr(errors, word), name) for word, name in KEPT.items() if name]
WITHOUT = [getattr(errors, word) for word, name in KEPT.items() if not name]


class Classes(unittest.TestCase):

    def test_keeper_error_stands_directly_below_value_error(self):
        self.assertEqual(KeeperError.__bases__, (ValueError,))

    def test_each_error_stands_directly_below_keeper_error(self):
        for word in KEPT:
            self.assertEqual(getattr(errors, word).__bases__, (KeeperError,), word)

    def test_the_file_defines_these_errors_and_no_others(self):
        found = {word for word, value in vars(errors).items() if inspect.isclass(value)}
        self.assertEqual(found, {"KeeperError", *KEPT})
        for word in found:
            self.assertEqual(getattr(errors, word).__module__, "oneedition.errors")
            self.assertEqual(getattr(errors, word).__name__, word)

    def test_each_error_makes_its_objects_itself(self):
        for word in KEPT:
            self.assertIn("__init__", vars(getattr(errors, word)), word)


class Arguments(unittest.TestCase):

    def check(self, error, name, value):
        self.assertEqual(list(vars(error)), [name])
        self.assertIs(getattr(error, name), value)
        # The text must come out, too, where the value is too long to be written.
        self.assertIsInstance(str(error), str)
        self.assertIsInstance(repr(error), str)

    def test_by_position(self):
        for error_class, name in WITH_ARGUMENT:
            for value in any_values():
                self.check(error_class(value), name, value)

    def test_by_name(self):
        for error_class, name in WITH_ARGUMENT:
            for value in any_values():
                self.check(error_class(**{name: value}), name, value)

    def test_an_argument_is_needed(self):
        for error_class, name in WITH_ARGUMENT:
            with self.assertRaises(TypeError):
                error_class()
            with self.assertRaises(TypeError):
                error_class(1, 2)
            with self.assertRaises(TypeError):
                error_class(**{"other" + name: 1})

    def test_errors_without_an_argument(self):
        for error_class in WITHOUT:
            self.assertEqual(vars(error_class()), {})
            with self.assertRaises(TypeError):
                error_class(1)

    def test_the_argument_is_not_changed(self):
        for error_class, _ in WITH_ARGUMENT:
            value = [1, {"a": (2, [3])}]
            error_class(value)
            self.assertEqual(value, [1, {"a": (2, [3])}])

    def test_one_object_does_not_change_another(self):
        for error_class, name in WITH_ARGUMENT:
            one, other = error_class(1), error_class([2])
            self.assertEqual([getattr(one, name), getattr(other, name)], [1, [2]])


class Raised(unittest.TestCase):

    def test_each_is_caught_as_keeper_error_and_as_value_error(self):
        for caught in (KeeperError, ValueError):
            for error_class, name in WITH_ARGUMENT:
                with self.assertRaises(caught) as context:
                    raise error_class((7, [8]))
                self.assertEqual(getattr(context.exception, name), (7, [8]))
            for error_class in WITHOUT:
                with self.assertRaises(caught):
                    raise error_class()

    def test_none_is_caught_as_another(self):
        made = [error_class(1) for error_class, _ in WITH_ARGUMENT] + [error_class() for error_class in WITHOUT]
        for at, error in enumerate(made):
            for index, other in enumerate(made):
                self.assertEqual(isinstance(error, other.__class__), at == index)


if __name__ == "__main__":
    unittest.main()
