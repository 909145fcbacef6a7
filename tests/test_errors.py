"""The 37 error classes of the interface."""

import inspect
import unittest

from sealedslots import errors

ABOUT_ARGUMENTS = {
    "InvalidReader": ("problem", "place"), "InvalidLanguage": ("problem", "place"),
    "InvalidTemplate": ("problem", "place"), "InvalidTexts": ("problem", "name"), "InvalidState": ("value",),
    "InvalidStates": ("value",), "InvalidWord": ("value",), "InvalidRow": ("value",), "InvalidSigns": ("value",),
    "InvalidCount": ("value",), "InvalidLookAhead": ("value",), "InvalidVector": ("value",),
    "InvalidWriter": ("problem", "place"), "InvalidRegimes": ("problem", "name"), "InvalidKinds": ("place",),
    "InvalidParts": ("problem", "place"), "InvalidTemplates": ("problem", "place"), "InvalidText": ("line",),
    "InvalidCommand": ("value",),
}
LOOKUPS = {"UnknownSlot": ("name",), "UnknownName": ("name",)}
AT_RUN_TIME = {
    "Unreadable": ("place",), "SignsDiffer": ("one", "other"), "ReadersDiffer": ("place",), "NotSealed": ("vector",),
    "NotWritten": ("look_ahead",), "NotMember": ("word",), "Finished": ("word",), "Unfaithful": ("word", "problem"),
    "NotFilled": ("word",), "NoWay": ("name",), "NotApart": ("one", "other", "word"), "NameTaken": ("name",),
    "NothingToUndo": (), "RunFailed": ("position", "results"),
}
GROUPS = [(errors.SlotsError, ABOUT_ARGUMENTS), (LookupError, LOOKUPS), (RuntimeError, AT_RUN_TIME),
          (ArithmeticError, {"TooLarge": ("kind", "limit")})]
VALUES = [None, 0, "ab", [1, [2]], object(), (True, {})]


class ErrorsTest(unittest.TestCase):
    def classes(self):
        for base, group in GROUPS:
            for name, parameters in group.items():
                yield base, getattr(errors, name), parameters

    def test_there_are_exactly_these_classes(self):
        found = [name for name, value in vars(errors).items() if inspect.isclass(value)]
        listed = ["SlotsError"] + [made.__name__ for _, made, _ in self.classes()]
        self.assertEqual(sorted(found), sorted(listed))
        self.assertEqual(len(found), 37)

    def test_base_classes(self):
        self.assertEqual(errors.SlotsError.__bases__, (ValueError,))
        for base, made, _ in self.classes():
            self.assertEqual(made.__bases__, (base,), made)

    def test_attributes_by_position_and_by_name(self):
        for _, made, parameters in self.classes():
            for shift in range(len(VALUES)):
                values = [VALUES[(shift + at) % len(VALUES)] for at in range(len(parameters))]
                given = dict(zip(parameters, values))
                for error in (made(*values), made(**given)):
                    self.assertEqual(vars(error), given)
                    self.assertTrue(all(getattr(error, name) is value for name, value in given.items()))
                    self.assertIsInstance(str(error), str)

    def test_wrong_parameters(self):
        for _, made, parameters in self.classes():
            with self.assertRaises(TypeError):
                made(*[0] * (len(parameters) + 1))
            if parameters:
                with self.assertRaises(TypeError):
                    made()

    def test_slots_error_is_made_of_a_message(self):
        self.assertEqual(str(errors.SlotsError("why")), "why")
        self.assertIsInstance(errors.SlotsError(), ValueError)
        with self.assertRaises(errors.SlotsError):
            raise errors.InvalidWord(3)


if __name__ == "__main__":
    unittest.main()
