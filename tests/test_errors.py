"""The error classes: promise 1 and the interface of costpapers.errors."""

import unittest

from costpapers import errors

WITHOUT_FIELDS = (
    "BadPlan", "BadRow", "BadNumber", "NotBest", "NoOther", "NoPlan", "BadLists", "BadTable", "BadTransport",
    "BadNet", "NoWay", "NotBounded", "BadOrder", "NotText", "NotSimple", "BadStep", "NoStep",
)
WITH_FIELD = (("BadTask", "index"), ("TooWide", "most"), ("InvalidText", "place"))


class ErrorsTest(unittest.TestCase):
    def test_base(self):
        self.assertEqual(errors.PlanError.__bases__, (ValueError,))

    def test_all_are_direct_subclasses(self):
        for name in WITHOUT_FIELDS + tuple(name for name, _ in WITH_FIELD):
            error = getattr(errors, name)
            self.assertEqual(error.__bases__, (errors.PlanError,), name)
            self.assertEqual(error.__module__, "costpapers.errors", name)

    def test_without_fields(self):
        for name in WITHOUT_FIELDS:
            self.assertEqual(vars(getattr(errors, name)()), {}, name)

    def test_with_field(self):
        for name, field in WITH_FIELD:
            error = getattr(errors, name)
            self.assertEqual(vars(error(3)), {field: 3}, name)
            self.assertEqual(vars(error(**{field: 4})), {field: 4}, name)
            self.assertRaises(TypeError, error)
        self.assertIsNone(errors.BadTask(None).index)

    def test_no_others(self):
        names = {name for name in vars(errors) if not name.startswith("_")}
        self.assertEqual(names, {"PlanError", *WITHOUT_FIELDS, *(name for name, _ in WITH_FIELD)})
