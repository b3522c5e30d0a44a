"""Points [9] and [10]: rows, their spaces, steps and carries, and what is made of them."""

import random
import unittest

from barswoven.errors import InvalidRow, InvalidTime, WovenError
from barswoven.matrix import Matrix, block
from barswoven.row import Row, carries

from drawn import BASES, any_matrix, any_row

NO_BASES = (-7, -1, 0, 1, 4, 9, 91, 98, 101, 10 ** 19, 2 ** 64 - 59, -(10 ** 19))


def written(row):
    return (row.base, row.dims, [(step.base, step.width, step.rows) for step in row.steps])


def drawn_rows(seed, times):
    chance = random.Random(seed)
    for base in BASES:
        for _ in range(times):
            yield any_row(chance, base, chance.randrange(5), 4)


def space(row, time):
    """The dimension at any time, as the document tells it."""
    if time < 0:
        return 0
    return row.dims[time] if time <= row.last else row.dims[-1]


def step_by_hand(row, time):
    if time < 0:
        return Matrix(row.base, 0, [[] for _ in range(space(row, time + 1))])
    if time >= row.last:
        return Matrix.identity(row.base, row.dims[-1])
    return row.steps[time]


def carry_by_hand(row, start, end):
    total = Matrix.identity(row.base, space(row, start))
    for time in range(start, end):
        total = step_by_hand(row, time) * total
    return total


class FieldTest(unittest.TestCase):
    def setUp(self):
        self.steps = [Matrix(5, 2, [[1, 2]]), Matrix(5, 1, [[3], [4], [0]])]
        self.row = Row(5, [2, 1, 3], self.steps)

    def test_fields(self):
        row = self.row
        self.assertEqual((row.base, row.dims, row.steps, row.last), (5, (2, 1, 3), tuple(self.steps), 2))
        self.assertIs(type(row.dims), tuple)
        self.assertIs(type(row.steps), tuple)

    def test_one_time(self):
        for size in (0, 3):
            row = Row(2, [size], [])
            self.assertEqual((row.base, row.dims, row.steps, row.last), (2, (size,), (), 0))

    def test_tuples_and_keywords(self):
        self.assertEqual(Row(5, (2, 1, 3), tuple(self.steps)), self.row)
        self.assertEqual(Row(base=5, dims=[2, 1, 3], steps=self.steps), self.row)

    def test_the_passed_lists_may_change_afterwards(self):
        dims, steps = [2, 1, 3], list(self.steps)
        row = Row(5, dims, steps)
        self.assertEqual((dims, steps), ([2, 1, 3], self.steps))
        dims[0] = 7
        dims.append(1)
        steps.pop()
        steps[0] = Matrix.zero(5, 1, 2)
        self.assertEqual(row, self.row)
        self.assertEqual((row.dims, row.last, row.steps), ((2, 1, 3), 2, tuple(self.steps)))


class EqualityTest(unittest.TestCase):
    def test_equal_and_not(self):
        row = Row(5, [2, 1], [Matrix(5, 2, [[1, 2]])])
        self.assertIs(row == Row(5, (2, 1), (Matrix(5, 2, [[1, 2]]),)), True)
        self.assertIs(row != Row(5, (2, 1), (Matrix(5, 2, [[1, 2]]),)), False)
        for other in (
            Row(7, [2, 1], [Matrix(7, 2, [[1, 2]])]), Row(5, [2, 1], [Matrix(5, 2, [[1, 3]])]),
            Row(5, [2], []), Row(5, [1], []), Row(5, [3, 1], [Matrix(5, 3, [[1, 2, 0]])]), row.prolonged(2),
        ):
            self.assertIs(row == other, False)
            self.assertIs(row != other, True)

    def test_rows_without_steps(self):
        self.assertIs(Row(5, [2], []) == Row(5, (2,), ()), True)
        self.assertIs(Row(5, [2], []) == Row(5, [1], []), False)
        self.assertIs(Row(5, [2], []) == Row(7, [2], []), False)

    def test_empty_rows(self):
        self.assertIs(Row(5, [0], []) == Row(5, [0], []), True)
        self.assertIs(Row(5, [0], []) == Row(7, [0], []), False)
        self.assertIs(Row(5, [0], []) == Row(5, [0, 0], [Matrix.zero(5, 0, 0)]), False)

    def test_objects_of_other_kinds(self):
        row = Row(5, [0], [])

        class Alike:
            base, dims, steps, last = 5, (0,), (), 0

        for other in (None, 0, True, "", (), [], {}, (5, (0,), ()), Matrix.zero(5, 0, 0), object(), Row, Alike()):
            self.assertIs(row == other, False)
            self.assertIs(other == row, False)
            self.assertIs(row != other, True)


class WrongInputTest(unittest.TestCase):
    def refused(self, *told):
        with self.subTest(told=told):
            with self.assertRaises(InvalidRow):
                Row(*told)

    def test_kind_of_the_error(self):
        with self.assertRaises(WovenError):
            Row(4, [0], [])

    def test_no_base(self):
        for base in NO_BASES:
            self.refused(base, [0], [])
            self.refused(base, [2], [])
            self.refused(base, [1, 1], [Matrix.identity(5, 1)])

    def test_no_dimensions(self):
        self.refused(5, [], [])
        self.refused(5, (), ())
        self.refused(5, [], [Matrix.zero(5, 0, 0)])

    def test_negative_dimensions(self):
        for dims in ([-1], [-(10 ** 19)]):
            self.refused(5, dims, [])
        for dims in ([-1, 0], [0, -1], [-1, -1]):
            self.refused(5, dims, [Matrix.zero(5, 0, 0)])
        self.refused(5, [1, 1, -1], [Matrix.identity(5, 1), Matrix.zero(5, 0, 1)])

    def test_another_number_of_steps(self):
        unit = Matrix.identity(5, 1)
        for dims, many in (([1], 1), ([1, 1], 0), ([1, 1], 2), ([1, 1, 1], 1), ([1, 1, 1], 3), ([1], 2)):
            self.refused(5, dims, [unit] * many)
        self.refused(5, [0, 0], [])

    def test_a_step_of_another_base(self):
        self.refused(5, [1, 1], [Matrix.identity(7, 1)])
        self.refused(5, [0, 0], [Matrix.identity(7, 0)])
        self.refused(5, [1, 1, 1], [Matrix.identity(5, 1), Matrix.identity(7, 1)])

    def test_a_step_of_another_size(self):
        for height, width in ((2, 2), (3, 3), (2, 3), (4, 2), (3, 1), (0, 2), (3, 0)):
            self.refused(5, [2, 3], [Matrix.zero(5, height, width)])
            self.refused(5, [1, 2, 3], [Matrix.zero(5, 2, 1), Matrix.zero(5, height, width)])
        self.refused(5, [0, 3], [Matrix.zero(5, 0, 3)])
        self.refused(5, [3, 0], [Matrix.zero(5, 3, 0)])

    def test_dimensions_out_of_range(self):
        self.refused(5, [10 ** 19, 1], [Matrix.identity(5, 1)])
        self.refused(5, [1, 10 ** 19], [Matrix.identity(5, 1)])


class SpaceTest(unittest.TestCase):
    def test_told_spaces(self):
        step = Matrix(5, 2, [[1, 2]])
        row = Row(5, [2, 1], [step])
        self.assertEqual([row.dim(time) for time in (-1000, -2, -1, 0, 1, 2, 3, 1000)], [0, 0, 0, 2, 1, 1, 1, 1])
        self.assertEqual(row.step(-2), Matrix(5, 0, []))
        self.assertEqual(row.step(-1), Matrix(5, 0, [[], []]))
        self.assertEqual(row.step(0), step)
        for time in (1, 2, 1000):
            self.assertEqual(row.step(time), Matrix.identity(5, 1))

    def test_drawn_rows_at_all_times(self):
        for row in drawn_rows(9, 12):
            for time in range(-3, row.last + 4):
                self.assertEqual(row.dim(time), space(row, time))
                self.assertEqual(row.step(time), step_by_hand(row, time))

    def test_carries_at_all_times(self):
        for row in drawn_rows(19, 6):
            times = range(-3, row.last + 4)
            for start in times:
                for end in range(start, row.last + 4):
                    found = row.carry(start, end)
                    self.assertEqual(found, carry_by_hand(row, start, end))
                    self.assertEqual((found.height, found.width), (space(row, end), space(row, start)))

    def test_one_carry_behind_another(self):
        for row in drawn_rows(29, 4):
            top = row.last + 3
            for start in range(-3, top):
                for middle in range(start, top):
                    for end in range(middle, top):
                        both = row.carry(middle, end) * row.carry(start, middle)
                        self.assertEqual(both, row.carry(start, end))

    def test_far_times(self):
        row = Row(5, [2, 1], [Matrix(5, 2, [[1, 2]])])
        self.assertEqual(row.carry(-1000, 1000), Matrix(5, 0, [[]]))
        self.assertEqual(row.carry(-1000, -1000), Matrix(5, 0, []))
        self.assertEqual(row.carry(0, 1000), Matrix(5, 2, [[1, 2]]))
        self.assertEqual(row.carry(1000, 1000), Matrix.identity(5, 1))

    def test_end_ahead_of_the_start(self):
        row = Row(5, [2, 1], [Matrix(5, 2, [[1, 2]])])
        for start, end in (
            (1, 0), (0, -1), (-1, -2), (3, 2), (1000, -1000), (0, -(10 ** 19)), (10 ** 19, 0), (10 ** 19, 10 ** 18),
        ):
            with self.assertRaises(InvalidTime):
                row.carry(start, end)

    def test_carries_over_one_lag(self):
        for row in drawn_rows(39, 3):
            for lag in [*range(row.last + 4), 100]:
                told = [carry_by_hand(row, time, time + lag) for time in range(row.last + 1)]
                self.assertEqual(carries(row, lag), told)

    def test_carries_of_a_long_row(self):
        chance = random.Random(49)
        row = Row(3, [3] * 31, [any_matrix(chance, 3, 3, 3) for _ in range(30)])
        for lag in range(36):
            self.assertEqual(carries(row, lag), [row.carry(time, time + lag) for time in range(31)])


class MadeTest(unittest.TestCase):
    def same_at_all_times(self, found, row, ahead, since):
        """The found row is at each time what the row is ahead of it."""
        for time in range(since, max(found.last, row.last) + 6):
            self.assertEqual(found.dim(time), space(row, time + ahead))
            self.assertEqual(found.step(time), step_by_hand(row, time + ahead))

    def test_prolonged(self):
        for row in drawn_rows(59, 6):
            for more in range(4):
                found = row.prolonged(row.last + more)
                self.assertEqual((found.base, found.last), (row.base, row.last + more))
                self.assertIs(found == row, more == 0)
                self.same_at_all_times(found, row, 0, -3)
        self.assertEqual(Row(5, [0], []).prolonged(1000).dims, (0,) * 1001)

    def test_prolonged_too_early(self):
        row = Row(5, [1, 1, 1], [Matrix.identity(5, 1)] * 2)
        for last in (1, 0, -1, -(10 ** 19)):
            with self.assertRaises(InvalidTime):
                row.prolonged(last)
        with self.assertRaises(InvalidTime):
            Row(5, [1], []).prolonged(-1)

    def test_later(self):
        for row in drawn_rows(69, 6):
            for lag in range(5):
                found = row.later(lag)
                self.assertEqual((found.base, found.last), (row.base, row.last + lag))
                self.same_at_all_times(found, row, -lag, -3)
        self.assertEqual(Row(5, [2], []).later(100).dims, (0,) * 100 + (2,))

    def test_told_later(self):
        row = Row(5, [2, 1], [Matrix(5, 2, [[1, 2]])])
        told = [Matrix.zero(5, 0, 0), Matrix.zero(5, 2, 0), Matrix(5, 2, [[1, 2]])]
        self.assertEqual(row.later(2), Row(5, [0, 0, 2, 1], told))
        self.assertEqual(row.later(0), row)

    def test_earlier(self):
        for row in drawn_rows(79, 6):
            for lag in range(row.last + 4):
                found = row.earlier(lag)
                self.assertEqual((found.base, found.last), (row.base, max(row.last - lag, 0)))
                self.same_at_all_times(found, row, lag, 0)
                self.assertEqual(found.dim(-1), 0)

    def test_told_earlier(self):
        steps = [Matrix(5, 2, [[1, 2]]), Matrix(5, 1, [[3], [4], [0]])]
        row = Row(5, [2, 1, 3], steps)
        self.assertEqual(row.earlier(0), row)
        self.assertEqual(row.earlier(1), Row(5, [1, 3], steps[1:]))
        for lag in (2, 3, 100):
            self.assertEqual(row.earlier(lag), Row(5, [3], []))
        self.assertEqual(row.later(3).earlier(3), row)

    def test_plus(self):
        chance = random.Random(89)
        for base in BASES:
            for _ in range(8):
                one = any_row(chance, base, chance.randrange(4), 3)
                other = any_row(chance, base, chance.randrange(4), 3)
                found = one.plus(other)
                self.assertEqual((found.base, found.last), (base, max(one.last, other.last)))
                for time in range(-3, found.last + 4):
                    self.assertEqual(found.dim(time), space(one, time) + space(other, time))
                    told = block(step_by_hand(one, time), step_by_hand(other, time))
                    self.assertEqual(found.step(time), told)

    def test_plus_in_its_order(self):
        one = Row(5, [1, 1], [Matrix(5, 1, [[2]])])
        other = Row(5, [2], [])
        self.assertEqual(one.plus(other).step(0).rows, ((2, 0, 0), (0, 1, 0), (0, 0, 1)))
        self.assertEqual(other.plus(one).step(0).rows, ((1, 0, 0), (0, 1, 0), (0, 0, 2)))

    def test_plus_of_another_base(self):
        for size in (0, 1):
            with self.assertRaises(InvalidRow):
                Row(5, [size], []).plus(Row(7, [size], []))

    def test_the_rows_stay(self):
        for row in drawn_rows(99, 3):
            told = written(row)
            for _ in range(2):
                answers = [row.prolonged(6), row.later(2), row.earlier(2), row.plus(row), row.carry(0, 9)]
                again = [row.prolonged(6), row.later(2), row.earlier(2), row.plus(row), row.carry(0, 9)]
                self.assertEqual(answers, again)
            carries(row, 3).clear()
            self.assertEqual(len(carries(row, 3)), row.last + 1)
            self.assertEqual(written(row), told)


if __name__ == "__main__":
    unittest.main()
