import unittest

from stackorder import errors

FAMILIES = {
    "PaperError": {"InvalidPaper": ("word", "at")},
    "PlanError": {
        "InvalidStep": ("step", "reason"),
        "UnknownName": ("name",),
        "NothingToUndo": ("steps",),
        "InvalidAmount": ("value",),
    },
    "TextError": {"InvalidText": ("line", "field"), "InvalidCommand": ("text",)},
}

ERRORS = [
    (getattr(errors, family), getattr(errors, name), attributes)
    for family, members in FAMILIES.items() for name, attributes in members.items()
]


class Untouchable:
    """A value that cannot be compared, shown, measured or tested."""

    def _refuse(self, *_):
        raise AssertionError("the error looked at its attribute")

    __eq__ = __str__ = __repr__ = __len__ = __bool__ = __iter__ = __hash__ = __format__ = _refuse


class Errors(unittest.TestCase):
    def test_families(self):
        self.assertEqual(errors.StackError.__bases__, (ValueError,))
        for family in FAMILIES:
            self.assertEqual(getattr(errors, family).__bases__, (errors.StackError,))
        for family, error, _ in ERRORS:
            self.assertEqual(error.__bases__, (family,))

    def test_an_error_belongs_to_one_family_alone(self):
        for family, error, attributes in ERRORS:
            made = error(*attributes)
            own = [name for name in FAMILIES if isinstance(made, getattr(errors, name))]
            self.assertEqual(own, [family.__name__])
            self.assertIsInstance(made, ValueError)
            for _, other, _ in ERRORS:
                self.assertEqual(isinstance(made, other), other is error)
            for builtin in (TypeError, LookupError, ArithmeticError, RuntimeError, AttributeError):
                self.assertNotIsInstance(made, builtin)

    def test_they_keep_the_objects_by_position(self):
        for _, error, attributes in ERRORS:
            values = [Untouchable() for _ in attributes]
            made = error(*values)
            for name, value in zip(attributes, values):
                self.assertIs(getattr(made, name), value)

    def test_they_keep_the_objects_by_name(self):
        for _, error, attributes in ERRORS:
            values = {name: [name] for name in attributes}
            made = error(**values)
            self.assertEqual(sorted(vars(made)), sorted(attributes))
            for name in attributes:
                self.assertIs(getattr(made, name), values[name])

    def test_they_keep_any_value(self):
        for _, error, attributes in ERRORS:
            for value in (None, True, 0, "", (), [], [[()]], (1, ["a"])):
                made = error(*[value for _ in attributes])
                for name in attributes:
                    self.assertIs(getattr(made, name), value)

    def test_they_take_exactly_their_attributes(self):
        for _, error, attributes in ERRORS:
            with self.assertRaises(TypeError):
                error()
            with self.assertRaises(TypeError):
                error(*attributes, "more")
            with self.assertRaises(TypeError):
                error(*attributes, more=1)

    def test_they_are_raised_and_caught(self):
        for family, error, attributes in ERRORS:
            for caught in (error, family, errors.StackError, ValueError):
                with self.assertRaises(caught) as raised:
                    raise error(*attributes)
                self.assertEqual(getattr(raised.exception, attributes[0]), attributes[0])
