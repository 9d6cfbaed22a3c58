"""The interface, slipwire/errors.py: the classes of refusals."""

import itertools
import unittest

from slipwire import errors

# Each class with the class of Python's own that it stands under, and its fields.
REFUSALS = {
    "BadSlip": (ValueError, ("part",), ("mask",)),
    "BadLetter": (ValueError, ("part",), ("data",)),
    "BadEnd": (ValueError, ("part",), ("words",)),
    "BadText": (ValueError, ("text",), ("bell 0 :\n",)),
    "BadRow": (ValueError, ("row",), (399,)),
    "Fault": (ValueError, ("code", "at"), (12, 70_200)),
    "NoSlip": (IndexError, ("number",), (1999,)),
    "NoByte": (IndexError, ("at",), (7,)),
    "NoDeed": (LookupError, ("many",), (201,)),
    "Ended": (RuntimeError, ("talk",), (31,)),
}


def each():
    return [(getattr(errors, name), *rest) for name, rest in REFUSALS.items()]


class Refusals(unittest.TestCase):
    def assert_fields(self, refusal, fields, values):
        self.assertEqual([getattr(refusal, field) for field in fields], list(values), type(refusal))

    def test_fields_by_place(self):
        for refusal, _, fields, values in each():
            self.assert_fields(refusal(*values), fields, values)

    def test_fields_by_name_in_any_order(self):
        for refusal, _, fields, values in each():
            for pairs in itertools.permutations(zip(fields, values)):
                self.assert_fields(refusal(**dict(pairs)), fields, values)

    def test_first_by_place_others_by_name(self):
        fault = errors.Fault(10, at=3)
        self.assertEqual((fault.code, fault.at), (10, 3))

    def test_a_field_is_the_very_value(self):
        for value in (0, 1, 2 ** 24 - 1, "", "kind"):
            for refusal, _, fields, _ in each():
                made = refusal(*[value] * len(fields))
                self.assert_fields(made, fields, [value] * len(fields))

    def test_fields_without_a_value_are_not_made_up(self):
        for refusal, _, _, values in each():
            with self.assertRaises(TypeError):
                refusal(*values[:-1])
            with self.assertRaises(TypeError):
                refusal(*values, 0)

    def test_straight_under_a_class_of_pythons_own(self):
        for refusal, base, _, _ in each():
            self.assertEqual(refusal.__bases__, (base,), refusal)

    def test_under_no_other_one_of_this_programs(self):
        for one, other in itertools.permutations(REFUSALS, 2):
            self.assertFalse(issubclass(getattr(errors, one), getattr(errors, other)), (one, other))

    def test_raised_and_caught_by_their_own_class_and_pythons(self):
        for refusal, base, fields, values in each():
            for caught in (refusal, base):
                with self.assertRaises(caught) as held:
                    raise refusal(*values)
                self.assertIs(type(held.exception), refusal)
                self.assert_fields(held.exception, fields, values)


if __name__ == "__main__":
    unittest.main()
