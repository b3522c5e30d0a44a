"""Point [6]: products of matrices and with vectors, sums, differences, multiples and blocks."""

import random
import unittest

from barswoven.errors import InvalidMatrix
from barswoven.matrix import Matrix, block


def any_matrix(chance, base, height, width):
    return Matrix(base, width, [[chance.randrange(base) for _ in range(width)] for _ in range(height)])


def any_vector(chance, base, length):
    return tuple(chance.randrange(base) for _ in range(length))


def product_by_hand(first, second):
    return tuple(
        tuple(
            sum(first.rows[at][mid] * second.rows[mid][place] for mid in range(first.width)) % first.base
            for place in range(second.width)
        )
        for at in range(first.height)
    )


class ApplyTest(unittest.TestCase):
    def test_told_products(self):
        matrix = Matrix(7, 3, [[1, 2, 3], [4, 5, 6]])
        self.assertEqual(matrix.apply((1, 0, 0)), (1, 4))
        self.assertEqual(matrix.apply((1, 1, 1)), (6, 1))
        self.assertEqual(matrix.apply((6, 6, 6)), (1, 6))

    def test_a_list_as_the_vector(self):
        vector = [1, 1, 1]
        found = Matrix(7, 3, [[1, 2, 3], [4, 5, 6]]).apply(vector)
        self.assertEqual(found, (6, 1))
        self.assertIs(type(found), tuple)
        self.assertEqual(vector, [1, 1, 1])

    def test_sizes_of_zero(self):
        self.assertEqual(Matrix(7, 0, [[], []]).apply(()), (0, 0))
        self.assertEqual(Matrix(7, 0, [[], []]).apply([]), (0, 0))
        self.assertEqual(Matrix(7, 2, []).apply((1, 2)), ())
        self.assertEqual(Matrix(7, 0, []).apply(()), ())

    def test_another_length(self):
        for matrix, vector in (
            (Matrix(7, 2, [[1, 2]]), (1,)), (Matrix(7, 2, [[1, 2]]), (1, 2, 3)), (Matrix(7, 2, [[1, 2]]), []),
            (Matrix(7, 0, [[]]), (0,)), (Matrix(7, 2, []), (0,)), (Matrix(7, 2, []), ()),
        ):
            with self.subTest(matrix=matrix.rows, vector=vector):
                with self.assertRaises(InvalidMatrix):
                    matrix.apply(vector)

    def test_identity(self):
        self.assertEqual(Matrix.identity(5, 4).apply((1, 2, 3, 4)), (1, 2, 3, 4))


class ProductTest(unittest.TestCase):
    def test_told_product(self):
        a = Matrix(7, 2, [[1, 2], [3, 4]])
        b = Matrix(7, 3, [[1, 1, 0], [0, 1, 5]])
        found = a * b
        self.assertEqual((found.base, found.width, found.rows), (7, 3, ((1, 3, 3), (3, 0, 6))))

    def test_order_matters(self):
        a = Matrix(5, 2, [[0, 1], [0, 0]])
        b = Matrix(5, 2, [[0, 0], [1, 0]])
        self.assertEqual((a * b).rows, ((1, 0), (0, 0)))
        self.assertEqual((b * a).rows, ((0, 0), (0, 1)))

    def test_applying_one_after_the_other(self):
        chance = random.Random(6)
        for base in (2, 3, 13, 97):
            for _ in range(60):
                high, mid, low = (chance.randrange(6) for _ in range(3))
                a = any_matrix(chance, base, high, mid)
                b = any_matrix(chance, base, mid, low)
                found = a * b
                vector = any_vector(chance, base, low)
                self.assertEqual((found.base, found.height, found.width), (base, high, low))
                self.assertEqual(found.rows, product_by_hand(a, b))
                self.assertEqual(found.apply(vector), a.apply(b.apply(vector)))

    def test_sizes_of_zero(self):
        self.assertEqual(Matrix(3, 0, [[], []]) * Matrix(3, 2, []), Matrix.zero(3, 2, 2))
        self.assertEqual(Matrix(3, 2, []) * Matrix(3, 0, [[], []]), Matrix(3, 0, []))
        self.assertEqual(Matrix(3, 2, []) * Matrix(3, 1, [[1], [2]]), Matrix(3, 1, []))
        self.assertEqual(Matrix(3, 1, [[1], [2]]) * Matrix(3, 0, [[]]), Matrix(3, 0, [[], []]))
        self.assertEqual(Matrix(3, 0, []) * Matrix(3, 0, []), Matrix(3, 0, []))

    def test_greatest_sizes(self):
        chance = random.Random(40)
        a = any_matrix(chance, 97, 40, 40)
        b = any_matrix(chance, 97, 40, 40)
        self.assertEqual((a * b).rows, product_by_hand(a, b))

    def test_greatest_sums(self):
        for base in (2, 3, 97):
            for width in (1, 2, 3, 7, 40, 120):
                a = Matrix(base, width, [[base - 1] * width, [0] * width, [base - 1] * width])
                b = Matrix(base, 4, [[base - 1, base - 1, 0, base - 1]] * width)
                most = width * (base - 1) ** 2 % base
                self.assertEqual((a * b).rows, ((most, most, 0, most), (0, 0, 0, 0), (most, most, 0, most)))

    def test_identity(self):
        matrix = Matrix(5, 3, [[1, 2, 3], [4, 0, 1]])
        self.assertEqual(Matrix.identity(5, 2) * matrix, matrix)
        self.assertEqual(matrix * Matrix.identity(5, 3), matrix)

    def test_refused(self):
        for a, b in (
            (Matrix.zero(5, 2, 2), Matrix.zero(7, 2, 2)), (Matrix.zero(5, 0, 0), Matrix.zero(7, 0, 0)),
            (Matrix.zero(5, 2, 3), Matrix.zero(5, 2, 3)), (Matrix.zero(5, 2, 0), Matrix.zero(5, 1, 2)),
            (Matrix.zero(5, 2, 1), Matrix.zero(5, 0, 2)), (Matrix.zero(5, 0, 1), Matrix.zero(5, 0, 0)),
        ):
            with self.subTest(a=a.rows, b=b.rows):
                with self.assertRaises(InvalidMatrix):
                    a * b


class SumTest(unittest.TestCase):
    def test_told_sums(self):
        a = Matrix(7, 3, [[1, 2, 3], [4, 5, 6]])
        b = Matrix(7, 3, [[6, 0, 5], [4, 1, 6]])
        self.assertEqual(a + b, Matrix(7, 3, [[0, 2, 1], [1, 6, 5]]))
        self.assertEqual(a - b, Matrix(7, 3, [[2, 2, 5], [0, 4, 0]]))
        self.assertEqual(b - a, Matrix(7, 3, [[5, 5, 2], [0, 3, 0]]))
        self.assertIs((a - a).is_zero, True)

    def test_applied(self):
        chance = random.Random(7)
        for base in (2, 3, 97):
            for _ in range(30):
                height, width = chance.randrange(5), chance.randrange(5)
                a = any_matrix(chance, base, height, width)
                b = any_matrix(chance, base, height, width)
                vector = any_vector(chance, base, width)
                pairs = list(zip(a.apply(vector), b.apply(vector)))
                self.assertEqual((a + b).apply(vector), tuple((x + y) % base for x, y in pairs))
                self.assertEqual((a - b).apply(vector), tuple((x - y) % base for x, y in pairs))
                self.assertEqual((a + b) - b, a)

    def test_sizes_of_zero(self):
        for height, width in ((0, 0), (0, 3), (3, 0)):
            empty = Matrix.zero(5, height, width)
            self.assertEqual(empty + empty, empty)
            self.assertEqual(empty - empty, empty)

    def test_refused(self):
        matrix = Matrix.zero(5, 2, 3)
        for other in (
            Matrix.zero(7, 2, 3), Matrix.zero(5, 3, 2), Matrix.zero(5, 2, 2), Matrix.zero(5, 3, 3),
            Matrix.zero(5, 0, 3), Matrix.zero(5, 2, 0), Matrix.zero(5, 0, 0),
        ):
            for a, b in ((matrix, other), (other, matrix)):
                with self.subTest(a=a.rows, b=b.rows):
                    with self.assertRaises(InvalidMatrix):
                        a + b
                    with self.assertRaises(InvalidMatrix):
                        a - b

    def test_refused_empty_ones(self):
        for a, b in (
            (Matrix.zero(5, 0, 2), Matrix.zero(5, 0, 3)), (Matrix.zero(5, 2, 0), Matrix.zero(5, 3, 0)),
            (Matrix.zero(5, 0, 0), Matrix.zero(7, 0, 0)),
        ):
            with self.assertRaises(InvalidMatrix):
                a + b
            with self.assertRaises(InvalidMatrix):
                a - b


class ScaledTest(unittest.TestCase):
    def test_factors(self):
        rows = ((0, 1, 2), (3, 4, 6))
        long = 98765432109876543210
        for factor in (0, 1, 2, 6, 7, 8, 100, -1, -2, -7, -100, long, -long):
            found = Matrix(7, 3, rows).scaled(factor)
            with self.subTest(factor=factor):
                self.assertEqual((found.base, found.width), (7, 3))
                self.assertEqual(found.rows, tuple(tuple(factor * x % 7 for x in row) for row in rows))

    def test_told_multiples(self):
        matrix = Matrix(5, 3, [[0, 1, 4]])
        self.assertEqual(matrix.scaled(0), Matrix(5, 3, [[0, 0, 0]]))
        self.assertEqual(matrix.scaled(-1), Matrix(5, 3, [[0, 4, 1]]))
        self.assertEqual(matrix.scaled(12345678901234567892), Matrix(5, 3, [[0, 2, 3]]))

    def test_sizes_of_zero(self):
        for height, width in ((0, 0), (0, 3), (3, 0)):
            self.assertEqual(Matrix.zero(5, height, width).scaled(3), Matrix.zero(5, height, width))


class BlockTest(unittest.TestCase):
    def test_told_block(self):
        found = block(Matrix(7, 2, [[1, 2], [3, 4], [5, 6]]), Matrix(7, 3, [[6, 5, 4]]))
        told = [[1, 2, 0, 0, 0], [3, 4, 0, 0, 0], [5, 6, 0, 0, 0], [0, 0, 6, 5, 4]]
        self.assertEqual(found, Matrix(7, 5, told))

    def test_sizes_of_zero(self):
        matrix = Matrix(7, 2, [[1, 2]])
        self.assertEqual(block(matrix, Matrix.zero(7, 0, 0)), matrix)
        self.assertEqual(block(Matrix.zero(7, 0, 0), matrix), matrix)
        self.assertEqual(block(matrix, Matrix.zero(7, 2, 0)), Matrix(7, 2, [[1, 2], [0, 0], [0, 0]]))
        self.assertEqual(block(Matrix.zero(7, 0, 1), matrix), Matrix(7, 3, [[0, 1, 2]]))
        self.assertEqual(block(Matrix.zero(7, 0, 3), Matrix.zero(7, 2, 0)), Matrix.zero(7, 2, 3))
        self.assertEqual(block(Matrix.zero(7, 2, 0), Matrix.zero(7, 0, 3)), Matrix.zero(7, 2, 3))

    def test_refused(self):
        for size in (0, 2):
            with self.assertRaises(InvalidMatrix):
                block(Matrix.identity(5, size), Matrix.identity(7, size))


class StayTest(unittest.TestCase):
    def test_the_operands_stay(self):
        a = Matrix(5, 2, [[1, 2], [3, 4]])
        b = Matrix(5, 2, [[0, 3], [2, 2]])
        vector = [1, 4]
        for _ in range(2):
            # The second time round the answers are the same ones.
            self.assertEqual((a * b).rows, ((4, 2), (3, 2)))
            self.assertEqual((a + b).rows, ((1, 0), (0, 1)))
            self.assertEqual((a - b).rows, ((1, 4), (1, 2)))
            self.assertEqual(a.scaled(2).rows, ((2, 4), (1, 3)))
            self.assertEqual(block(a, b).height, 4)
            self.assertEqual(a.transposed().rows, ((1, 3), (2, 4)))
            self.assertEqual(a.apply(vector), (4, 4))
            self.assertEqual(a.columns(), [(1, 3), (2, 4)])
            self.assertEqual((a.base, a.width, a.height, a.rows), (5, 2, 2, ((1, 2), (3, 4))))
            self.assertEqual((b.base, b.width, b.height, b.rows), (5, 2, 2, ((0, 3), (2, 2))))
            self.assertEqual(vector, [1, 4])


if __name__ == "__main__":
    unittest.main()
