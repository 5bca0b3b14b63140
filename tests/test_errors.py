"""The error classes: bases and fields (the interface, point 1)."""

import unittest

from countdoors import errors

PLAIN = """BadDoor BadOrder BadRanks BadIndex BadState NotText BadTold BadCount BadFlag BadRow
BadPrices NothingToUndo NothingToRedo BadWords BadPair BadGoals BadWeights""".split()
FIELDS = {
    "BadNest": "index", "BadNumbers": "index", "BadSides": "index",
    "TooMany": "most", "InvalidText": "place", "InvalidLine": "word",
}


class Errors(unittest.TestCase):
    def test_base(self):
        self.assertEqual(errors.DoorError.__bases__, (ValueError,))

    def test_direct_subclasses(self):
        for name in [*PLAIN, *FIELDS]:
            with self.subTest(name):
                self.assertEqual(getattr(errors, name).__bases__, (errors.DoorError,))
                self.assertEqual(getattr(errors, name).__module__, "countdoors.errors")

    def test_no_further_ones(self):
        names = {kind.__name__ for kind in errors.DoorError.__subclasses__()}
        self.assertEqual(names, {*PLAIN, *FIELDS})

    def test_fields(self):
        for name, field in FIELDS.items():
            with self.subTest(name):
                error = getattr(errors, name)(5)
                self.assertEqual(vars(error), {field: 5})

    def test_index_may_be_none(self):
        self.assertIsNone(errors.BadNest(None).index)
        self.assertIsNone(errors.BadNumbers(None).index)

    def test_plain_ones_have_no_field(self):
        for name in PLAIN:
            with self.subTest(name):
                self.assertEqual(vars(getattr(errors, name)("why")), {})


if __name__ == "__main__":
    unittest.main()
