import math
import unittest

from beamload.shares import greatest_share


class TestGreatestShare(unittest.TestCase):
    def test_small_numbers_of_all_signs(self):
        for one in range(-30, 31):
            for other in range(-30, 31):
                self.assertEqual(greatest_share(one, other), math.gcd(one, other), (one, other))

    def test_great_numbers(self):
        common = 3 ** 600
        self.assertEqual(greatest_share(common * 2 ** 900, -common * 5 ** 400), common)

    def test_as_many_steps_as_it_takes(self):
        # Neighbours in this row take the most steps of all numbers of their figures.
        one, other = 1, 1
        while len(str(one)) < 650:
            one, other = one + other, one
        self.assertEqual(greatest_share(one, other), 1)
        self.assertEqual(greatest_share(7 * one, 7 * other), 7)


if __name__ == "__main__":
    unittest.main()
