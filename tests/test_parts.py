import math
import unittest

from strollhouse.parts import (
    come_to_one, common, is_part, joint_bottom, joint_multiple, lowest, parts_over, tops_over,
)


class Parts(unittest.TestCase):
    def test_common_is_the_greatest_number_that_goes_into_both(self):
        for one in range(0, 40):
            for other in range(0, 40):
                self.assertEqual(common(one, other), math.gcd(one, other), (one, other))

    def test_joint_multiple(self):
        self.assertEqual(joint_multiple([]), 1)
        for numbers in ([1], [6, 4], [72, 1, 63], [2, 3, 5, 7], [8, 8, 8]):
            self.assertEqual(joint_multiple(numbers), math.lcm(*numbers), numbers)

    def test_lowest_terms(self):
        self.assertEqual(lowest(6, 8), (3, 4))
        self.assertEqual(lowest(3, 4), (3, 4))
        self.assertEqual(lowest(9, 3), (3, 1))
        self.assertEqual(lowest(7, 7), (1, 1))
        self.assertEqual(lowest(10 ** 60, 4 * 10 ** 60), (1, 4))

    def test_nought_in_lowest_terms(self):
        for bottom in (1, 2, 7, 10 ** 60):
            self.assertEqual(lowest(0, bottom), (0, 1))

    def test_what_is_a_part(self):
        for pair in ((0, 1), (1, 1), (1, 2), (5, 3), (8, 9), (1, 10 ** 60)):
            self.assertIs(is_part(pair), True, pair)

    def test_what_is_no_part(self):
        for pair in ((0, 2), (2, 4), (3, 3), (-1, 2), (1, -2), (-1, -2), (1, 0), (0, 0), (0, -1), (-1, 1), (1, -1)):
            self.assertIs(is_part(pair), False, pair)

    def test_parts_over_one_bottom_and_back(self):
        parts = [(1, 6), (3, 4), (0, 1)]
        self.assertEqual(joint_bottom(parts), 12)
        self.assertEqual(tops_over(parts, 12), [2, 9, 0])
        self.assertEqual(parts_over([2, 9, 0], 12), parts)

    def test_come_to_one(self):
        self.assertIs(come_to_one([(1, 2), (1, 3), (1, 6)]), True)
        self.assertIs(come_to_one([(0, 1), (1, 1)]), True)
        self.assertIs(come_to_one([(1, 2), (1, 3), (1, 7)]), False)
        self.assertIs(come_to_one([(1, 2), (1, 2), (1, 6)]), False)


if __name__ == "__main__":
    unittest.main()
