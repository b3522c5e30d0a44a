"""Point [5]: bases, residues, sums, products, inverses and vectors."""

import unittest

from barswoven.errors import NoInverse, WovenError
from barswoven.field import dot, inverse_of, is_base

PRIMES = [number for number in range(2, 98) if all(number % small for small in range(2, number))]


class BaseTest(unittest.TestCase):
    def test_small_numbers(self):
        self.assertEqual((len(PRIMES), PRIMES[-1]), (25, 97))
        for number in range(-3, 111):
            with self.subTest(number=number):
                self.assertIs(is_base(number), number in PRIMES)

    def test_long_numbers(self):
        # 2 ** 64 - 59 is a prime of 20 figures.
        for number in (10 ** 19, 10 ** 20 - 1, 2 ** 64 - 59, 97 * 10 ** 18, 2 + 2 ** 64):
            with self.subTest(number=number):
                self.assertIs(is_base(number), False)
                self.assertIs(is_base(-number), False)


class InverseTest(unittest.TestCase):
    def test_every_residue_of_every_base(self):
        for base in PRIMES:
            for value in range(1, base):
                with self.subTest(base=base, value=value):
                    found = inverse_of(value, base=base)
                    self.assertIn(found, range(1, base))
                    self.assertEqual(value * found % base, 1)

    def test_told_inverses(self):
        self.assertEqual(inverse_of(1, base=2), 1)
        self.assertEqual(inverse_of(3, base=7), 5)
        self.assertEqual(inverse_of(96, base=97), 96)

    def test_zero_has_none(self):
        for base in PRIMES:
            with self.subTest(base=base):
                with self.assertRaises(NoInverse):
                    inverse_of(0, base=base)

    def test_kind_of_the_error(self):
        with self.assertRaises(WovenError):
            inverse_of(0, base=5)
        with self.assertRaises(ValueError):
            inverse_of(0, base=5)

    def test_base_is_passed_by_keyword(self):
        with self.assertRaises(TypeError):
            inverse_of(1, 5)


class DotTest(unittest.TestCase):
    def test_products(self):
        self.assertEqual(dot((1, 2), (3, 4), base=97), 11)
        self.assertEqual(dot((1, 2), (3, 4), base=7), 4)
        self.assertEqual(dot((1, 1), (1, 1), base=2), 0)
        self.assertEqual(dot((96,) * 40, (96,) * 40, base=97), 40)

    def test_all_pairs_of_residues(self):
        for base in (2, 3, 5, 7):
            for one in range(base):
                for other in range(base):
                    self.assertEqual(dot((one, 1), (other, one), base=base), (one * other + one) % base)

    def test_empty_vectors(self):
        for base in PRIMES:
            self.assertEqual(dot((), (), base=base), 0)
            self.assertEqual(dot([], (), base=base), 0)

    def test_lists_and_tuples(self):
        self.assertEqual(dot([1, 2, 3], (2, 0, 4), base=5), 4)
        self.assertEqual(dot((1, 2, 3), [2, 0, 4], base=5), 4)

    def test_the_arguments_stay(self):
        first, second = [1, 2, 3], [2, 0, 4]
        dot(first, second, base=5)
        self.assertEqual((first, second), ([1, 2, 3], [2, 0, 4]))

    def test_base_is_passed_by_keyword(self):
        with self.assertRaises(TypeError):
            dot((1,), (1,), 5)


if __name__ == "__main__":
    unittest.main()
