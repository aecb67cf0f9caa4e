"""Point 5: the classes of refusals, where they stand, and their fields."""

import unittest

from notring import errors
from notring.errors import (BadLine, NoFact, NoRow, NoSheet, OldFact, RingError, TooManyFacts, TooManyOpen,
                            TooManyRows)
from samples import NO_TEXTS

FIELDS = {
    BadLine: "line", NoSheet: "row", TooManyRows: "count", TooManyFacts: "count", TooManyOpen: "count",
    NoFact: "fact", OldFact: "fact",
}


class Errors(unittest.TestCase):
    def test_ring_error_stands_under_value_error(self):
        self.assertEqual(RingError.__bases__, (ValueError,))

    def test_each_class_stands_straight_under_ring_error(self):
        for kind in list(FIELDS) + [NoRow]:
            self.assertEqual(kind.__bases__, (RingError,), kind)

    def test_no_two_classes_are_one(self):
        self.assertEqual(len(set(FIELDS) | {NoRow, RingError}), 9)

    def test_there_are_no_other_classes(self):
        names = [name for name, value in vars(errors).items() if isinstance(value, type)]
        self.assertEqual(sorted(names), sorted([kind.__name__ for kind in list(FIELDS) + [NoRow, RingError]]))

    def test_each_class_has_its_field(self):
        for kind, field in FIELDS.items():
            for thing in [0, 7, None, "win a", ("win", "a")] + NO_TEXTS:
                self.assertEqual(vars(kind(thing)), {field: thing})

    def test_no_row_is_made_of_nothing(self):
        self.assertEqual(vars(NoRow()), {})

    def test_classes_with_a_field_are_made_of_one_thing(self):
        for kind in FIELDS:
            self.assertRaises(TypeError, kind)
            self.assertRaises(TypeError, kind, 1, 2)

    def test_each_is_taken_as_itself_as_ring_error_and_as_value_error(self):
        for error in [kind(3) for kind in FIELDS] + [NoRow()]:
            for taken in (error.__class__, RingError, ValueError):
                with self.assertRaises(taken) as caught:
                    raise error
                self.assertIs(caught.exception, error)

    def test_none_is_taken_as_another_one(self):
        kinds = list(FIELDS) + [NoRow]
        for error in [kind(3) for kind in FIELDS] + [NoRow()]:
            taken = [kind for kind in kinds if isinstance(error, kind)]
            self.assertEqual(taken, [error.__class__])

    def test_two_errors_have_nothing_in_common(self):
        one = BadLine(1)
        other = BadLine(2)
        self.assertEqual((one.line, other.line), (1, 2))


if __name__ == "__main__":
    unittest.main()
