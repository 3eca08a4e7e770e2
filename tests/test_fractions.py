import itertools
import math
import unittest
from fractions import Fraction

from herdline.fractions import made, plus, times


NUMBERS = [0, 1, 2, 3, 4, 6, 9, 10, 12, 35, 97, 1000, 10 ** 6, 2 ** 70, 3 ** 50, 6 ** 40 + 1, 10 ** 120]
TOPS = NUMBERS + [-number for number in NUMBERS]
BOTTOMS = [number for number in NUMBERS if number > 0]


class Fractions(unittest.TestCase):
    def check(self, told, asked):
        """told is the fraction that asked, a Fraction of Python's own, stands for."""
        self.assertIs(type(told), tuple)
        self.assertEqual([type(part) for part in told], [int, int])
        self.assertGreater(told[1], 0)
        self.assertEqual(math.gcd(*told), 1)
        self.assertEqual(told, (asked.numerator, asked.denominator))

    def test_made_with_a_divisor_in_common(self):
        self.assertEqual(made(2, 4), (1, 2))
        self.assertEqual(made(12, 18), (2, 3))
        self.assertEqual(made(10, 5), (2, 1))
        self.assertEqual(made(7, 7), (1, 1))

    def test_made_without_a_divisor_in_common(self):
        self.assertEqual(made(3, 7), (3, 7))
        self.assertEqual(made(8, 9), (8, 9))
        self.assertEqual(made(5, 1), (5, 1))
        self.assertEqual(made(1, 5), (1, 5))

    def test_made_of_nought(self):
        self.assertEqual(made(0, 1), (0, 1))
        self.assertEqual(made(0, 6), (0, 1))
        self.assertEqual(made(0, 10 ** 50), (0, 1))

    def test_made_below_nought(self):
        self.assertEqual(made(-2, 4), (-1, 2))
        self.assertEqual(made(-7, 3), (-7, 3))
        self.assertEqual(made(-9, 3), (-3, 1))

    def test_made_of_large_numbers(self):
        self.assertEqual(made(10 ** 100, 10 ** 90), (10 ** 10, 1))
        self.assertEqual(made(-6 * 10 ** 300, 4 * 10 ** 300), (-3, 2))

    def test_made_of_many(self):
        for top, bottom in itertools.product(TOPS, BOTTOMS):
            self.check(made(top, bottom), Fraction(top, bottom))

    def test_plus(self):
        self.assertEqual(plus((1, 2), (1, 3)), (5, 6))
        self.assertEqual(plus((1, 6), (1, 3)), (1, 2))
        self.assertEqual(plus((1, 2), (1, 2)), (1, 1))
        self.assertEqual(plus((1, 2), (-1, 2)), (0, 1))
        self.assertEqual(plus((-3, 4), (1, 4)), (-1, 2))
        self.assertEqual(plus((0, 1), (0, 1)), (0, 1))
        self.assertEqual(plus((0, 1), (2, 7)), (2, 7))

    def test_times(self):
        self.assertEqual(times((1, 2), (1, 3)), (1, 6))
        self.assertEqual(times((2, 3), (3, 4)), (1, 2))
        self.assertEqual(times((2, 3), (3, 2)), (1, 1))
        self.assertEqual(times((-2, 3), (1, 2)), (-1, 3))
        self.assertEqual(times((-2, 3), (-3, 5)), (2, 5))
        self.assertEqual(times((0, 1), (-5, 7)), (0, 1))

    def test_plus_and_times_of_many(self):
        values = [Fraction(top, bottom) for top in TOPS[::3] for bottom in BOTTOMS[::2]]
        for one, other in itertools.product(values, repeat=2):
            first = (one.numerator, one.denominator)
            second = (other.numerator, other.denominator)
            self.check(plus(first, second), one + other)
            self.check(times(first, second), one * other)


if __name__ == "__main__":
    unittest.main()
