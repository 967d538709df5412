import unittest

from maskpaint import errors
from maskpaint.errors import (
    BadComing, BadFool, BadHouse, BadLine, BadLot, BadMap, BadNumber, BadStep, BadText, BadTree, BadWit,
    PaintError, TooMany)

PLAIN = (BadHouse, BadLot, BadComing, BadNumber, BadTree, BadStep, BadFool)
WITH_FIELD = (
    (BadMap, "part", "pairs"), (BadWit, "index", 0), (BadWit, "index", None), (TooMany, "most", 7),
    (BadLine, "line", 300), (BadText, "place", 6), (BadText, "place", None))


class TestErrors(unittest.TestCase):
    def test_base_is_a_value_error(self):
        self.assertEqual(PaintError.__bases__, (ValueError,))

    def test_all_are_direct_subclasses(self):
        for error in PLAIN + tuple(row[0] for row in WITH_FIELD):
            self.assertEqual(error.__bases__, (PaintError,), error.__name__)
            self.assertEqual(error.__module__, "maskpaint.errors")

    def test_there_are_no_others(self):
        wanted = {error.__name__ for error in PLAIN} | {row[0].__name__ for row in WITH_FIELD}
        self.assertEqual({name for name in vars(errors) if name[0] != "_"}, wanted | {"PaintError"})

    def test_plain_ones_need_no_arguments(self):
        for error in PLAIN:
            with self.assertRaises(PaintError):
                raise error()

    def test_fields_are_set_when_created(self):
        for error, field, value in WITH_FIELD:
            self.assertEqual(vars(error(value)), {field: value})
            self.assertEqual(vars(error(**{field: value})), {field: value})


if __name__ == "__main__":
    unittest.main()
