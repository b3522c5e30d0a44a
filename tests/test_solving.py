"""Points [7] and [8]: ranks, inverses, kernels, solutions and normal forms."""

import random
import time
import unittest
from itertools import product

from barswoven.errors import Singular, WovenError
from barswoven.field import dot
from barswoven.matrix import Matrix
from barswoven.solving import inverse, kernel, normal, rank, solve

from drawn import BASES, any_matrix, change_of_base, of_drawn_rank, rank_by_minors, rank_of_vectors


def written(matrix):
    return (matrix.base, matrix.width, matrix.rows)


def small_ones(seed, times):
    """Matrices of all heights and widths from 0 to 4: drawn ones, and products of a drawn rank."""
    chance = random.Random(seed)
    for base in BASES:
        for height, width in product(range(5), repeat=2):
            for _ in range(times):
                yield any_matrix(chance, base, height, width)
                yield of_drawn_rank(chance, base, height, width)


class RankTest(unittest.TestCase):
    def test_told_ranks(self):
        self.assertEqual(rank(Matrix(5, 2, [[1, 2], [3, 4]])), 2)
        self.assertEqual(rank(Matrix(2, 2, [[1, 1], [1, 1]])), 1)
        self.assertEqual(rank(Matrix(7, 3, [[1, 2, 3], [2, 4, 6], [3, 6, 2]])), 1)
        self.assertEqual(rank(Matrix(7, 3, [[0, 0, 1], [0, 0, 0], [0, 3, 0]])), 2)

    def test_the_base_matters(self):
        for base, told in ((2, 1), (3, 2), (5, 2), (97, 2)):
            self.assertEqual(rank(Matrix(base, 2, [[1, 1], [1, base - 1]])), told)

    def test_sizes_of_zero(self):
        for height, width in ((0, 0), (0, 3), (3, 0)):
            self.assertEqual(rank(Matrix.zero(5, height, width)), 0)
        self.assertEqual(rank(Matrix.zero(5, 3, 3)), 0)

    def test_against_minors(self):
        for matrix in small_ones(7, 5):
            self.assertEqual(rank(matrix), rank_by_minors(matrix), written(matrix))

    def test_of_all_small_matrices_over_two(self):
        for entries in product(range(2), repeat=9):
            matrix = Matrix(2, 3, [entries[:3], entries[3:6], entries[6:]])
            images = {matrix.apply(vector) for vector in product(range(2), repeat=3)}
            self.assertEqual(2 ** rank(matrix), len(images))

    def test_of_the_transposed(self):
        for matrix in small_ones(8, 2):
            self.assertEqual(rank(matrix), rank(matrix.transposed()))


class InverseTest(unittest.TestCase):
    def test_told_inverse(self):
        self.assertEqual(inverse(Matrix(7, 2, [[1, 2], [3, 4]])), Matrix(7, 2, [[5, 1], [5, 3]]))
        self.assertEqual(inverse(Matrix(2, 2, [[0, 1], [1, 0]])), Matrix(2, 2, [[0, 1], [1, 0]]))
        self.assertEqual(inverse(Matrix(97, 1, [[2]])), Matrix(97, 1, [[49]]))
        self.assertEqual(inverse(Matrix(5, 0, [])), Matrix(5, 0, []))

    def test_on_both_sides_or_singular(self):
        seen = {True: 0, False: 0}
        for matrix in small_ones(17, 6):
            invertible = matrix.height == matrix.width == rank_by_minors(matrix)
            seen[invertible] += 1
            with self.subTest(matrix=written(matrix)):
                if invertible:
                    found = inverse(matrix)
                    unit = Matrix.identity(matrix.base, matrix.width)
                    self.assertEqual(found * matrix, unit)
                    self.assertEqual(matrix * found, unit)
                    self.assertEqual(inverse(found), matrix)
                else:
                    with self.assertRaises(Singular):
                        inverse(matrix)
        self.assertGreater(min(seen.values()), 100)

    def test_not_square(self):
        for matrix in (
            Matrix(5, 0, [[]]), Matrix(5, 1, []), Matrix(5, 2, [[1, 0]]), Matrix(5, 1, [[1], [0]]),
            Matrix(5, 3, [[1, 0, 0], [0, 1, 0]]), Matrix(5, 2, [[1, 0], [0, 1], [0, 0]]),
        ):
            with self.assertRaises(Singular):
                inverse(matrix)

    def test_of_changes_of_base(self):
        chance = random.Random(27)
        for base in BASES:
            for size in range(8):
                there, back = change_of_base(chance, base, size)
                self.assertEqual(inverse(there), back)

    def test_kind_of_the_error(self):
        with self.assertRaises(WovenError):
            inverse(Matrix.zero(5, 2, 2))


class KernelTest(unittest.TestCase):
    def test_told_kernels(self):
        self.assertEqual(kernel(Matrix.identity(5, 3)), [])
        self.assertEqual(kernel(Matrix(5, 0, [[], []])), [])
        self.assertEqual(len(kernel(Matrix(5, 3, []))), 3)
        (found,) = kernel(Matrix(7, 2, [[1, 2]]))
        self.assertIn(found, {tuple(factor * entry % 7 for entry in (5, 1)) for factor in range(1, 7)})

    def test_a_base_of_the_kernel(self):
        for matrix in small_ones(37, 5):
            found = kernel(matrix)
            with self.subTest(matrix=written(matrix)):
                self.assertIs(type(found), list)
                self.assertEqual(len(found), matrix.width - rank_by_minors(matrix))
                self.assertEqual(rank_of_vectors(found, matrix.base), len(found))
                for vector in found:
                    self.assertIs(type(vector), tuple)
                    self.assertEqual(len(vector), matrix.width)
                    self.assertTrue(all(0 <= entry < matrix.base for entry in vector))
                    self.assertFalse(any(matrix.apply(vector)))

    def test_each_list_is_new(self):
        matrix = Matrix(5, 3, [[1, 2, 3]])
        found = kernel(matrix)
        found.clear()
        self.assertEqual(len(kernel(matrix)), 2)


class SolveTest(unittest.TestCase):
    def judged(self, matrix, vector):
        answer = solve(matrix, vector)
        self.assertIs(type(answer), tuple)
        word, found = answer
        self.assertIs(type(found), tuple)
        self.assertTrue(all(0 <= entry < matrix.base for entry in found))
        if word == "solution":
            self.assertEqual(matrix.apply(found), tuple(vector))
        else:
            self.assertEqual(word, "refuted")
            self.assertEqual(len(found), matrix.height)
            self.assertFalse(any(dot(found, column, base=matrix.base) for column in matrix.columns()))
            self.assertNotEqual(dot(found, vector, base=matrix.base), 0)
        return word

    def test_products_have_solutions(self):
        chance = random.Random(47)
        for matrix in small_ones(48, 4):
            vector = matrix.apply([chance.randrange(matrix.base) for _ in range(matrix.width)])
            self.assertEqual(self.judged(matrix, vector), "solution")

    def test_drawn_vectors(self):
        chance = random.Random(57)
        seen = []
        for matrix in small_ones(58, 4):
            vector = tuple(chance.randrange(matrix.base) for _ in range(matrix.height))
            beside = Matrix.of_columns(matrix.base, matrix.height, matrix.columns() + [vector])
            told = "solution" if rank_by_minors(beside) == rank_by_minors(matrix) else "refuted"
            self.assertEqual(self.judged(matrix, vector), told)
            seen.append(told)
        self.assertGreater(min(seen.count("solution"), seen.count("refuted")), 200)

    def test_sizes_of_zero(self):
        self.assertEqual(solve(Matrix(5, 0, []), ()), ("solution", ()))
        self.assertEqual(solve(Matrix(5, 0, [[], []]), (0, 0)), ("solution", ()))
        self.assertEqual(self.judged(Matrix(5, 0, [[], []]), (0, 3)), "refuted")
        self.assertEqual(self.judged(Matrix(5, 2, []), ()), "solution")

    def test_a_list_as_the_vector(self):
        matrix = Matrix(7, 2, [[1, 2], [2, 4]])
        for told in ([1, 2], [1, 3]):
            self.assertEqual(solve(matrix, told), solve(matrix, tuple(told)))
            self.judged(matrix, told)
        self.assertEqual(told, [1, 3])


class NormalTest(unittest.TestCase):
    def test_judged(self):
        for matrix in small_ones(67, 4):
            answer = normal(matrix)
            self.assertIs(type(answer), tuple)
            count, left, left_back, right, right_back = answer
            base, height, width = matrix.base, matrix.height, matrix.width
            with self.subTest(matrix=written(matrix)):
                self.assertEqual(count, rank_by_minors(matrix))
                for one, other, size in ((left, left_back, height), (right, right_back, width)):
                    self.assertEqual(one * other, Matrix.identity(base, size))
                    self.assertEqual(other * one, Matrix.identity(base, size))
                told = [[int(at == place < count) for place in range(width)] for at in range(height)]
                self.assertEqual(left * matrix * right, Matrix(base, width, told))

    def test_told_rank_one(self):
        matrix = Matrix(5, 3, [[0, 0, 0], [0, 2, 4]])
        count, left, _, right, _ = normal(matrix)
        self.assertEqual(count, 1)
        self.assertEqual((left * matrix * right).rows, ((1, 0, 0), (0, 0, 0)))


class AllTest(unittest.TestCase):
    def test_the_same_call_twice(self):
        chance = random.Random(77)
        for matrix in small_ones(78, 1):
            vector = tuple(chance.randrange(matrix.base) for _ in range(matrix.height))
            copied = Matrix(matrix.base, matrix.width, [list(row) for row in matrix.rows])
            told = written(matrix)
            for action in (rank, kernel, normal, lambda one: solve(one, vector), lambda one: solve(one, list(vector))):
                self.assertEqual(action(matrix), action(copied))
                self.assertEqual(action(matrix), action(matrix))
            self.assertEqual(written(matrix), told)

    def test_greatest_sizes_in_a_short_time(self):
        chance = random.Random(87)
        start = time.monotonic()
        matrix, back = change_of_base(chance, 97, 40)
        self.assertEqual(inverse(matrix), back)
        low = any_matrix(chance, 97, 40, 23) * any_matrix(chance, 97, 23, 40)
        self.assertEqual(rank(low), 23)
        self.assertEqual(len(kernel(low)), 17)
        count, left, left_back, right, right_back = normal(low)
        told = [[int(at == place < 23) for place in range(40)] for at in range(40)]
        self.assertEqual((count, left * low * right), (23, Matrix(97, 40, told)))
        self.assertEqual(left_back * Matrix(97, 40, told) * right_back, low)
        vector = low.apply([chance.randrange(97) for _ in range(40)])
        word, found = solve(low, vector)
        self.assertEqual((word, low.apply(found)), ("solution", vector))
        with self.assertRaises(Singular):
            inverse(low)
        self.assertLess(time.monotonic() - start, 10)


if __name__ == "__main__":
    unittest.main()
