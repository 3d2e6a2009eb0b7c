"""What each refusal stands under, and its fields."""

import unittest

from leastfail import errors
from leastfail.errors import (BadRow, BadToken, BadValue, BadVerdict, Gone, Nested, NoEnd, Nothing, NotSo,
                              Spent)
from tests.anything import NO_VERDICTS, deep_tuple, shared_tuple

UNDER = {
    BadValue: ValueError,
    BadVerdict: TypeError,
    Spent: OverflowError,
    Nested: RuntimeError,
    Gone: Exception,
    NotSo: LookupError,
    BadRow: BadValue,
    BadToken: BadValue,
    NoEnd: KeyError,
    Nothing: IndexError,
}
FIELDS = [
    (BadValue, {"what": "parts"}, {"what": "parts"}),
    (BadVerdict, {"told": ["x"]}, {"told": ["x"]}),
    (Spent, {"most": 7}, {"most": 7}),
    (Nested, {}, {}),
    (Gone, {"why": "lost"}, {"why": "lost"}),
    (NotSo, {"parts": (0, 2), "verdict": "pass"}, {"parts": (0, 2), "verdict": "pass"}),
    (BadRow, {"row": 3, "word": 0}, {"row": 3, "word": 0, "what": "row"}),
    (BadToken, {"place": 4}, {"place": 4, "what": "token"}),
    (NoEnd, {"name": "LIST"}, {"name": "LIST"}),
    (Nothing, {"about": "back"}, {"about": "back"}),
]


class KindTests(unittest.TestCase):

    def test_each_stands_right_under_what_is_told(self):
        for error, above in UNDER.items():
            with self.subTest(error=error.__name__):
                self.assertEqual(error.__bases__, (above,))

    def test_none_stands_under_another_own_one_but_those_two(self):
        for error in UNDER:
            above = [other for other in UNDER if other != error and issubclass(error, other)]
            with self.subTest(error=error.__name__):
                self.assertEqual(above, [BadValue] if error in (BadRow, BadToken) else [])

    def test_all_stand_in_errors_alone(self):
        own = [thing for thing in vars(errors).values() if isinstance(thing, type)]
        self.assertEqual(set(own), set(UNDER))

    def test_gone_stands_under_exception_alone(self):
        self.assertFalse(issubclass(Gone, (ValueError, TypeError, ArithmeticError, RuntimeError, LookupError)))


class FieldTests(unittest.TestCase):

    def test_fields_by_place(self):
        for error, made_of, fields in FIELDS:
            with self.subTest(error=error.__name__):
                self.assertEqual(vars(error(*made_of.values())), fields)

    def test_fields_by_name(self):
        for error, made_of, fields in FIELDS:
            with self.subTest(error=error.__name__):
                self.assertEqual(vars(error(**made_of)), fields)

    def test_they_can_be_raised_and_shown(self):
        for error, made_of, fields in FIELDS:
            with self.subTest(error=error.__name__):
                with self.assertRaises(error) as caught:
                    raise error(**made_of)
                self.assertEqual(vars(caught.exception), fields)
                self.assertIsInstance(str(caught.exception), str)

    def test_gone_made_of_nothing(self):
        self.assertEqual(Gone().why, "")

    def test_gone_made_of_another_kind(self):
        for why in (None, 0, ["x"], KeyError("x")):
            self.assertIs(Gone(why).why, why)

    def test_nested_is_made_of_nothing(self):
        with self.assertRaises(TypeError):
            Nested("x")

    def test_each_wants_what_it_is_made_of(self):
        for error, made_of, _ in FIELDS:
            if made_of and error != Gone:
                with self.subTest(error=error.__name__), self.assertRaises(TypeError):
                    error()

    def test_bad_verdict_of_anything(self):
        for told in NO_VERDICTS:
            self.assertIs(BadVerdict(told).told, told)

    def test_what_is_deep_or_much_can_be_shown(self):
        for thing in (deep_tuple(), shared_tuple()):
            self.assertLess(len(str(BadVerdict(thing)) + repr(BadVerdict(thing))), 200)
            self.assertLess(len(str(Gone(thing)) + repr(Gone(thing))), 200)

    def test_bad_row_and_bad_token_are_caught_as_bad_value(self):
        for error in (BadRow(31, 0), BadToken(1)):
            with self.assertRaises(BadValue) as caught:
                raise error
            self.assertIs(caught.exception, error)


if __name__ == "__main__":
    unittest.main()
