"""What a whole number is (0.2), and the inverse by which lamps meet."""

import unittest
from math import gcd

from farlamps.errors import NoBeat
from farlamps.whole import check_beat, inverse, is_whole
from tests.things import not_whole


class Whole(unittest.TestCase):
    def test_ints_of_any_size_are_whole(self):
        for number in (0, 1, -1, 10 ** 40, -10 ** 40, 10 ** 5000):
            self.assertIs(is_whole(number), True)
            self.assertIsNone(check_beat(number))

    def test_nothing_else_is(self):
        for thing in not_whole():
            self.assertIs(is_whole(thing), False)
            with self.assertRaises(NoBeat) as caught:
                check_beat(thing)
            self.assertIs(caught.exception.beat, thing)


class Inverse(unittest.TestCase):
    def test_small_ones(self):
        for modulus in range(1, 30):
            for number in range(-30, 60):
                if gcd(number, modulus) == 1:
                    told = inverse(number, modulus)
                    self.assertEqual(number * told % modulus, 1 % modulus)
                    self.assertTrue(0 <= told < modulus)

    def test_great_ones(self):
        for number, modulus in ((10 ** 40, 10 ** 40 + 1), (3 ** 90, 2 ** 150), (2 ** 9000, 3 ** 5000)):
            self.assertEqual(inverse(number, modulus), pow(number, -1, modulus))


if __name__ == "__main__":
    unittest.main()
