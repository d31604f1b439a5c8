"""The interface's errors: families, kinds and values."""

import unittest

from nonegrowsrich import errors
from nonegrowsrich.errors import Crowded, Halted, Missing, NoPlace, NotRight, Refused

FAMILIES = {"Refused": ValueError, "Missing": LookupError, "Halted": RuntimeError}
MADE_WITH_TEXT = {
    "NoHouse": Refused, "NoName": Refused, "NoDoubter": Refused, "NoWeight": Refused, "NoSign": Refused,
    "NoText": Refused, "NoLine": Refused, "Nothing": Refused, "NotTold": Halted, "Told": Halted,
}
WITH_VALUE = {"Crowded": (Refused, "what"), "NoPlace": (Missing, "path"), "NotRight": (Halted, "number")}


class ErrorsTest(unittest.TestCase):
    def test_families_stand_straight_under_pythons_errors(self):
        for name, base in FAMILIES.items():
            self.assertEqual(getattr(errors, name).__bases__, (base,))

    def test_families_are_made_with_a_text(self):
        for name in FAMILIES:
            self.assertEqual(str(getattr(errors, name)("why so")), "why so")

    def test_no_family_is_under_another(self):
        kinds = [Refused, Missing, Halted]
        for kind in kinds:
            self.assertEqual([other for other in kinds if issubclass(kind, other)], [kind])

    def test_errors_made_with_a_text(self):
        for name, family in MADE_WITH_TEXT.items():
            kind = getattr(errors, name)
            self.assertEqual(kind.__bases__, (family,), name)
            self.assertEqual(str(kind("why so")), "why so", name)

    def test_errors_with_a_value_stand_straight_under_their_family(self):
        for name, (family, value) in WITH_VALUE.items():
            self.assertEqual(getattr(errors, name).__bases__, (family,), name)

    def test_values_are_kept_as_handed_in(self):
        for name, (family, value) in WITH_VALUE.items():
            for thing in ("ones", (0, 1), (), [], {}, None, True, 0, -1, 10 ** 5000, ("a", [1])):
                error = getattr(errors, name)(thing)
                self.assertIs(getattr(error, value), thing)
                self.assertIsInstance(str(error), str)

    def test_values_by_name(self):
        self.assertEqual(Crowded(what="deep").what, "deep")
        self.assertEqual(NoPlace(path=(1, 2)).path, (1, 2))
        self.assertEqual(NotRight(number=4).number, 4)

    def test_values_are_needed(self):
        for kind in (Crowded, NoPlace, NotRight):
            self.assertRaises(TypeError, kind)

    def test_values_come_with_the_raised_error(self):
        with self.assertRaises(Missing) as held:
            raise NoPlace((3,))
        self.assertEqual(held.exception.path, (3,))


if __name__ == "__main__":
    unittest.main()
