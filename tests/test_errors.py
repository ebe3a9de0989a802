"""The errors (point 2 and errors.py)."""

from lineorigins import errors
from tests.support import AGREEABLE, RUDE, Case

LINE_ERRORS = ["InvalidNumber", "InvalidText", "InvalidName", "InvalidParents", "InvalidVersion",
               "InvalidHistory", "InvalidLayout", "InvalidPrices", "InvalidTelling", "InvalidDeeds",
               "InvalidLine", "InvalidRanges", "InvalidCommand", "ParseError"]
FIELDS = {name: "value" for name in LINE_ERRORS}
FIELDS["ParseError"] = "line"
FIELDS["TooMany"] = "limit"


class TestErrors(Case):

    def test_field_is_kept_itself(self):
        for name, field in FIELDS.items():
            cls = getattr(errors, name)
            for value in [0, None, True, "a", [], (1, 2), {}, object(), RUDE, AGREEABLE, 1.5]:
                with self.subTest(name=name):
                    self.assertIs(getattr(cls(value), field), value)
                    self.assertIs(getattr(cls(**{field: value}), field), value)

    def test_one_field_only(self):
        for name, field in FIELDS.items():
            with self.subTest(name=name):
                cls = getattr(errors, name)
                self.assertEqual(list(vars(cls(3))), [field])
                for args, more in [((), {}), ((1, 2), {}), ((), {"other": 1})]:
                    with self.assertRaises(TypeError):
                        cls(*args, **more)

    def test_a_changed_argument_stays_the_field(self):
        value = [1]
        error = errors.InvalidText(value)
        value.append(2)
        self.assertEqual(error.value, [1, 2])

    def test_own_methods(self):
        for name in FIELDS:
            self.assert_own_methods(getattr(errors, name), "__init__")

    def test_base_classes(self):
        self.assertEqual(errors.LineError.__bases__, (ValueError,))
        for name in LINE_ERRORS:
            self.assertEqual(getattr(errors, name).__bases__, (errors.LineError,))
        self.assertEqual(errors.TooMany.__bases__, (OverflowError,))
        self.assertEqual(errors.NothingToUndo.__bases__, (LookupError,))

    def test_neither_of_the_two_is_a_line_error(self):
        self.assertFalse(issubclass(errors.TooMany, errors.LineError))
        self.assertFalse(issubclass(errors.NothingToUndo, errors.LineError))

    def test_nothing_to_undo_has_no_fields(self):
        self.assertEqual(vars(errors.NothingToUndo()), {})

    def test_all_can_be_raised_and_caught(self):
        for name, field in FIELDS.items():
            cls = getattr(errors, name)
            with self.assertRaises(cls):
                raise cls(**{field: 1})
        with self.assertRaises(LookupError):
            raise errors.NothingToUndo()
        with self.assertRaises(ValueError):
            raise errors.ParseError(None)

    def test_defined_in_their_file(self):
        for name in [*FIELDS, "LineError", "NothingToUndo"]:
            self.assertEqual(getattr(errors, name).__module__, "lineorigins.errors")
