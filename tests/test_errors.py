import unittest

from strollhouse import errors

REFUSALS = ("NoHouse", "NoRoom", "NoCount", "NoShares", "NotBack", "Parted", "NoNote")


class Errors(unittest.TestCase):
    def test_the_one_above_all_stands_straight_under_value_error(self):
        self.assertEqual(errors.StrollError.__bases__, (ValueError,))

    def test_each_refusal_stands_straight_under_the_one_above_all(self):
        for name in REFUSALS:
            with self.subTest(name=name):
                refusal = getattr(errors, name)
                self.assertEqual(refusal.__name__, name)
                self.assertEqual(refusal.__bases__, (errors.StrollError,))

    def test_the_refusals_are_classes_of_their_own(self):
        self.assertEqual(len({getattr(errors, name) for name in REFUSALS}), len(REFUSALS))


if __name__ == "__main__":
    unittest.main()
