"""The classes of the errors [3]."""

import builtins
import unittest

from squeezedkeyer import errors
from squeezedkeyer.records import is_down, joined
from squeezedkeyer.rules import period
from tests.helpers import RECORD, RULES

WITH_A_STRING = [
    "InvalidLever", "InvalidTick", "InvalidNumber", "InvalidGaps", "InvalidText", "InvalidName",
    "Impossible", "NothingToUndo", "InvalidCommand",
]
WITH_FIELDS = {
    "InvalidRules": ["index"], "InvalidRecord": ["index"], "InvalidRuns": ["index"], "InvalidKinds": ["index"],
    "InvalidCases": ["index"], "InvalidCode": ["letter"], "TooLarge": ["limit"], "InvalidSyntax": ["line", "word"],
}
ALL = WITH_A_STRING + list(WITH_FIELDS)


class ErrorsTest(unittest.TestCase):
    def test_base_is_a_value_error_of_its_own(self):
        self.assertEqual(errors.KeyerError.__bases__, (ValueError,))
        self.assertEqual(errors.KeyerError.__module__, "squeezedkeyer.errors")
        self.assertEqual(errors.KeyerError.__name__, "Keyer" + "Error")

    def test_each_class_is_directly_under_the_base(self):
        for name in ALL:
            with self.subTest(name=name):
                found = getattr(errors, name)
                self.assertEqual(found.__bases__, (errors.KeyerError,))
                self.assertEqual((found.__module__, found.__name__), ("squeezedkeyer.errors", name))

    def test_no_class_is_under_another_one(self):
        for one in ALL:
            for other in ALL:
                with self.subTest(one=one, other=other):
                    self.assertEqual(issubclass(getattr(errors, one), getattr(errors, other)), one == other)

    def test_there_are_no_other_classes(self):
        found = [name for name, value in vars(errors).items() if isinstance(value, type)]
        self.assertEqual(sorted(found), sorted(ALL + ["KeyerError"]))

    def test_no_class_has_the_name_of_a_builtin(self):
        for name in vars(errors):
            if not name.startswith("__"):
                with self.subTest(name=name):
                    self.assertFalse(hasattr(builtins, name))

    def test_errors_without_fields_take_one_string(self):
        for name in WITH_A_STRING:
            with self.subTest(name=name):
                error = getattr(errors, name)("because of this")
                self.assertEqual(str(error), "because of this")
                self.assertEqual(vars(error), {})

    def test_fields_are_kept_under_their_names_in_this_order(self):
        for name, fields in WITH_FIELDS.items():
            for values in [[3, 14], [0, 0], [None, None], ["a", "b"], [10 ** 40, -1]]:
                with self.subTest(name=name, values=values):
                    given = values[:len(fields)]
                    error = getattr(errors, name)(*given)
                    self.assertEqual([getattr(error, field) for field in fields], given)
                    self.assertEqual(vars(error), dict(zip(fields, given)))

    def test_classes_with_fields_ask_for_all_of_them(self):
        for name, fields in WITH_FIELDS.items():
            for many in range(4):
                if many != len(fields):
                    with self.subTest(name=name, many=many), self.assertRaises(TypeError):
                        getattr(errors, name)(*range(many))

    def test_each_is_raised_and_caught_as_the_base_and_as_a_value_error(self):
        for name in ALL:
            error = getattr(errors, name)(*range(len(WITH_FIELDS.get(name, ["text"]))))
            for base in [errors.KeyerError, ValueError]:
                with self.subTest(name=name, base=base), self.assertRaises(base):
                    raise error

    def test_what_a_function_raises_is_caught_as_the_base_and_as_a_value_error(self):
        calls = [
            (errors.InvalidLever, period, (RULES, "x")), (errors.InvalidRules, period, (None, "s")),
            (errors.InvalidTick, is_down, (RECORD, "s", True)), (errors.InvalidRecord, joined, ([], RECORD[:1])),
        ]
        for kind, call, arguments in calls:
            for base in [kind, errors.KeyerError, ValueError]:
                with self.subTest(kind=kind, base=base), self.assertRaises(base) as caught:
                    call(*arguments)
                self.assertIs(type(caught.exception), kind)


if __name__ == "__main__":
    unittest.main()
