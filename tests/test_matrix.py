"""Point [6]: matrices, their fields, wrong inputs and equality."""

import unittest

from barswoven.errors import InvalidMatrix, WovenError
from barswoven.matrix import Matrix

NO_BASES = (-7, -1, 0, 1, 4, 9, 91, 98, 101, 10 ** 19, 2 ** 64 - 59, -(10 ** 19))


def written(matrix):
    return (matrix.base, matrix.width, matrix.rows)


class FieldTest(unittest.TestCase):
    def test_fields(self):
        matrix = Matrix(5, 3, [[0, 1, 2], [3, 4, 0]])
        self.assertEqual(written(matrix), (5, 3, ((0, 1, 2), (3, 4, 0))))
        self.assertEqual(matrix.height, 2)

    def test_lists_and_tuples(self):
        told = (5, 2, ((1, 2), (3, 4)))
        for rows in ([[1, 2], [3, 4]], ((1, 2), (3, 4)), [(1, 2), [3, 4]], ([1, 2], (3, 4))):
            matrix = Matrix(5, 2, rows)
            self.assertEqual(written(matrix), told)
            self.assertIs(type(matrix.rows), tuple)
            self.assertEqual([type(row) for row in matrix.rows], [tuple, tuple])

    def test_height_zero(self):
        for rows in ([], ()):
            matrix = Matrix(2, 3, rows)
            self.assertEqual((matrix.height, matrix.width, matrix.rows), (0, 3, ()))
            self.assertEqual(matrix.columns(), [(), (), ()])
            self.assertEqual(matrix.column(2), ())

    def test_width_zero(self):
        matrix = Matrix(97, 0, [[], (), []])
        self.assertEqual((matrix.height, matrix.width, matrix.rows), (3, 0, ((), (), ())))
        self.assertEqual(matrix.columns(), [])

    def test_both_zero(self):
        matrix = Matrix(2, 0, [])
        self.assertEqual((matrix.height, matrix.width, matrix.rows), (0, 0, ()))

    def test_is_zero(self):
        for matrix in (
            Matrix(3, 2, [[0, 0], [0, 0]]), Matrix(3, 0, []), Matrix(3, 2, []), Matrix(3, 0, [[], []]),
            Matrix.zero(3, 40, 40),
        ):
            self.assertIs(matrix.is_zero, True)
        for rows in ([[1, 0], [0, 0]], [[0, 0], [0, 2]], [[0, 0], [1, 0]], [[1, 1], [1, 1]]):
            self.assertIs(Matrix(3, 2, rows).is_zero, False)

    def test_columns(self):
        matrix = Matrix(7, 3, [[0, 1, 2], [3, 4, 5]])
        self.assertEqual([matrix.column(place) for place in range(3)], [(0, 3), (1, 4), (2, 5)])
        self.assertEqual(matrix.columns(), [(0, 3), (1, 4), (2, 5)])

    def test_each_list_of_columns_is_new(self):
        matrix = Matrix(7, 2, [[0, 1]])
        found = matrix.columns()
        found.append((6,))
        found[0] = (5,)
        self.assertEqual(matrix.columns(), [(0,), (1,)])
        self.assertEqual(matrix.rows, ((0, 1),))

    def test_transposed(self):
        matrix = Matrix(7, 3, [[0, 1, 2], [3, 4, 5]])
        self.assertEqual(written(matrix.transposed()), (7, 2, ((0, 3), (1, 4), (2, 5))))
        self.assertEqual(written(matrix.transposed().transposed()), written(matrix))
        self.assertEqual(written(Matrix(7, 3, []).transposed()), (7, 0, ((), (), ())))
        self.assertEqual(written(Matrix(7, 0, [[], []]).transposed()), (7, 2, ()))
        self.assertEqual(written(matrix), (7, 3, ((0, 1, 2), (3, 4, 5))))

    def test_the_passed_lists_may_change_afterwards(self):
        inner = [1, 2]
        rows = [inner, [3, 4]]
        matrix = Matrix(5, 2, rows)
        inner[0] = 4
        rows.append([0, 0])
        self.assertEqual(written(matrix), (5, 2, ((1, 2), (3, 4))))
        self.assertEqual(matrix, Matrix(5, 2, [[1, 2], [3, 4]]))
        self.assertNotEqual(matrix, Matrix(5, 2, [[4, 2], [3, 4]]))

    def test_the_passed_lists_stay(self):
        rows = [[1, 2], (3, 4)]
        Matrix(5, 2, rows)
        self.assertEqual(rows, [[1, 2], (3, 4)])


class MadeTest(unittest.TestCase):
    def test_of_columns(self):
        told = (7, 3, ((0, 1, 2), (3, 4, 5)))
        self.assertEqual(written(Matrix.of_columns(7, 2, [[0, 3], [1, 4], [2, 5]])), told)
        self.assertEqual(written(Matrix.of_columns(7, 2, ((0, 3), [1, 4], (2, 5)))), told)
        self.assertEqual(written(Matrix.of_columns(7, 2, [])), (7, 0, ((), ())))
        self.assertEqual(written(Matrix.of_columns(7, 0, [(), [], ()])), (7, 3, ()))
        self.assertEqual(written(Matrix.of_columns(7, 0, ())), (7, 0, ()))

    def test_of_columns_and_changed_lists(self):
        columns = [[0, 3], [1, 4]]
        matrix = Matrix.of_columns(7, 2, columns)
        self.assertEqual(columns, [[0, 3], [1, 4]])
        columns[0][0] = 6
        columns.pop()
        self.assertEqual(written(matrix), (7, 2, ((0, 1), (3, 4))))

    def test_identity(self):
        self.assertEqual(written(Matrix.identity(2, 0)), (2, 0, ()))
        self.assertEqual(written(Matrix.identity(2, 1)), (2, 1, ((1,),)))
        self.assertEqual(written(Matrix.identity(97, 3)), (97, 3, ((1, 0, 0), (0, 1, 0), (0, 0, 1))))

    def test_zero(self):
        self.assertEqual(written(Matrix.zero(5, 2, 3)), (5, 3, ((0, 0, 0), (0, 0, 0))))
        self.assertEqual(written(Matrix.zero(5, 0, 3)), (5, 3, ()))
        self.assertEqual(written(Matrix.zero(5, 2, 0)), (5, 0, ((), ())))
        self.assertEqual(written(Matrix.zero(5, 0, 0)), (5, 0, ()))

    def test_by_keyword(self):
        self.assertEqual(written(Matrix(base=5, width=1, rows=[[1]])), (5, 1, ((1,),)))
        self.assertEqual(written(Matrix.identity(base=5, size=1)), (5, 1, ((1,),)))
        self.assertEqual(written(Matrix.zero(base=5, height=1, width=2)), (5, 2, ((0, 0),)))
        self.assertEqual(written(Matrix.of_columns(base=5, height=1, columns=[[1], [2]])), (5, 2, ((1, 2),)))


class WrongInputTest(unittest.TestCase):
    def refused(self, make, *told):
        with self.subTest(told=told):
            with self.assertRaises(InvalidMatrix):
                make(*told)

    def test_kind_of_the_error(self):
        with self.assertRaises(WovenError):
            Matrix(4, 1, [[1]])
        with self.assertRaises(ValueError):
            Matrix(4, 1, [[1]])

    def test_no_base(self):
        for base in NO_BASES:
            self.refused(Matrix, base, 1, [[0]])
            self.refused(Matrix, base, 0, [])
            self.refused(Matrix.of_columns, base, 1, [[0]])
            self.refused(Matrix.of_columns, base, 0, [])
            self.refused(Matrix.identity, base, 2)
            self.refused(Matrix.identity, base, 0)
            self.refused(Matrix.zero, base, 2, 1)
            self.refused(Matrix.zero, base, 0, 0)

    def test_negative_sizes(self):
        for size in (-1, -2, -40, -(10 ** 19)):
            self.refused(Matrix, 5, size, [])
            self.refused(Matrix, 5, size, [[]])
            self.refused(Matrix.of_columns, 5, size, [])
            self.refused(Matrix.of_columns, 5, size, [[]])

    def test_negative_sizes_of_made_matrices(self):
        for size in (-1, -2, -40):
            self.refused(Matrix.zero, 5, size, 2)
            self.refused(Matrix.zero, 5, 2, size)
            self.refused(Matrix.zero, 5, 0, size)
            self.refused(Matrix.identity, 5, size)

    def test_rows_of_another_width(self):
        for rows in ([[1]], [[1, 2, 3]], [[]], [[1, 2], [1]], [[1, 2], [1, 2, 3]], [[1], [1, 2]]):
            self.refused(Matrix, 5, 2, rows)
        self.refused(Matrix, 5, 0, [[1]])
        self.refused(Matrix, 5, 10 ** 19, [[1]])

    def test_columns_of_another_height(self):
        for columns in ([[1]], [[1, 2, 3]], [[]], [[1, 2], [1]], [[1, 2], [1, 2, 3]], [[1], [1, 2]]):
            self.refused(Matrix.of_columns, 5, 2, columns)
        self.refused(Matrix.of_columns, 5, 0, [[1]])
        self.refused(Matrix.of_columns, 5, 10 ** 19, [[1]])

    def test_entries_that_are_no_residues(self):
        for base in (2, 5, 97):
            for entry in (-1, -base, base, base + 1, 10 ** 19, -(10 ** 19)):
                self.refused(Matrix, base, 1, [[entry]])
                self.refused(Matrix, base, 2, [[0, 1], [1, 0], [0, entry]])
                self.refused(Matrix.of_columns, base, 1, [[entry]])
                self.refused(Matrix.of_columns, base, 2, [[0, 1], [1, 0], [0, entry]])

    def test_the_outermost_entries(self):
        for base in (2, 5, 97):
            self.assertEqual(Matrix(base, 2, [[0, base - 1]]).rows, ((0, base - 1),))
            self.assertEqual(Matrix.of_columns(base, 1, [[0], [base - 1]]).rows, ((0, base - 1),))


class EqualityTest(unittest.TestCase):
    def test_equal(self):
        self.assertIs(Matrix(5, 2, [[1, 2]]) == Matrix(5, 2, ((1, 2),)), True)
        self.assertIs(Matrix(5, 2, [[1, 2]]) != Matrix(5, 2, ((1, 2),)), False)
        self.assertIs(Matrix(5, 2, []) == Matrix.zero(5, 0, 2), True)
        self.assertIs(Matrix(5, 0, [[]]) == Matrix.zero(5, 1, 0), True)

    def test_another_base_width_or_row(self):
        matrix = Matrix(5, 2, [[1, 2], [3, 4]])
        for other in (
            Matrix(7, 2, [[1, 2], [3, 4]]), Matrix(5, 2, [[1, 2], [3, 3]]), Matrix(5, 2, [[3, 4], [1, 2]]),
            Matrix(5, 2, [[1, 2]]), Matrix(5, 2, [[1, 2], [3, 4], [0, 0]]), Matrix(5, 3, [[1, 2, 0], [3, 4, 0]]),
        ):
            self.assertIs(matrix == other, False)
            self.assertIs(matrix != other, True)

    def test_empty_matrices_of_other_sizes(self):
        self.assertIs(Matrix(5, 2, []) == Matrix(5, 3, []), False)
        self.assertIs(Matrix(5, 0, [[]]) == Matrix(5, 0, [[], []]), False)
        self.assertIs(Matrix(5, 0, []) == Matrix(7, 0, []), False)

    def test_objects_of_other_kinds(self):
        matrix = Matrix(5, 1, [[1]])
        for other in (None, 0, 1, True, "", "1x1:1", (), [], {}, [[1]], ((1,),), (5, 1, ((1,),)), object(), Matrix):
            with self.subTest(other=other):
                self.assertIs(matrix == other, False)
                self.assertIs(other == matrix, False)
                self.assertIs(matrix != other, True)

    def test_an_object_with_the_same_fields(self):
        class Alike:
            base, width, rows = 5, 1, ((1,),)

        self.assertIs(Matrix(5, 1, [[1]]) == Alike(), False)


if __name__ == "__main__":
    unittest.main()
