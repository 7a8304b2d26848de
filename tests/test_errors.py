"""Point 4: the errors and their attributes."""

import inspect
import unittest

from waterbyturns import errors
from waterbyturns.errors import WaterError

ATTRIBUTES = {
    "BadName": ["name"],
    "BadNumber": ["what", "value"],
    "BadTurn": ["turn"],
    "BadStanding": ["standing"],
    "TooMany": ["limit"],
    "DriedOut": ["plot", "day"],
    "NotSafe": ["standing"],
    "BadPaper": ["row", "reason"],
    "Unlike": [],
    "NothingFits": ["day"],
    "BadText": ["line"],
    "NothingToUndo": [],
    "BadDeed": ["place"],
}


def error_classes():
    return {name: value for name, value in vars(errors).items() if inspect.isclass(value)}


class ErrorsTest(unittest.TestCase):
    def test_the_base_class_derives_from_value_error_directly(self):
        self.assertEqual(WaterError.__bases__, (ValueError,))

    def test_exactly_the_listed_classes_exist(self):
        self.assertEqual(set(error_classes()), set(ATTRIBUTES) | {"WaterError"})

    def test_each_other_class_derives_directly_from_the_base_class(self):
        for name in ATTRIBUTES:
            self.assertEqual(error_classes()[name].__bases__, (WaterError,), name)

    def test_attributes_stand_in_the_order_of_the_arguments(self):
        for name, attributes in ATTRIBUTES.items():
            values = [(place,) for place, _ in enumerate(attributes)]
            error = error_classes()[name](*values)
            self.assertEqual(vars(error), dict(zip(attributes, values)), name)

    def test_attributes_may_be_passed_by_their_names(self):
        for name, attributes in ATTRIBUTES.items():
            given = {attribute: (attribute,) for attribute in attributes}
            self.assertEqual(vars(error_classes()[name](**given)), given, name)

    def test_the_turn_is_a_tuple_of_its_own(self):
        names = ["b", "a"]
        error = errors.BadTurn(names)
        names.append("c")
        self.assertEqual(error.turn, ("b", "a"))

    def test_every_value_can_be_reported(self):
        # Python refuses to write out integers of more than 4300 digits.
        for value in ["x", "", 0, -1, True, None, [1], 10 ** 5000, -10 ** 5000, object()]:
            self.assertIs(errors.BadNumber("tank", value).value, value)
            self.assertIs(errors.BadName(value).name, value)

    def test_messages_are_strings(self):
        self.assertIn("tank", str(errors.BadNumber("tank", 9)))
        self.assertIn("9", str(errors.BadNumber("tank", 9)))


if __name__ == "__main__":
    unittest.main()
