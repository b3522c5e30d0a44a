"""Points [11] to [13]: bars, the ranks between two times, the bars of a row, the row of given bars."""

import random
import time
import unittest

from barswoven.bars import bars, lives, rank_between, row_of_bars, sorted_bars
from barswoven.errors import InvalidRow, InvalidTime
from barswoven.matrix import Matrix
from barswoven.row import Row

from drawn import BASES, any_bars, any_matrix, any_row, by_hand, is_alive, moved, rank_by_rows


def bars_by_formula(row):
    """The bars of a row after the numbers of point [12], with ranks that are found in another way."""
    last = row.last
    ranks = {(s, t): rank_by_rows(row.carry(s, t)) for s in range(last + 1) for t in range(s, last + 1)}

    def r(start, end):
        return ranks[start, end] if start >= 0 else 0

    found = []
    for b in range(last + 1):
        for e in range(b + 1, last + 1):
            found += [(b, e)] * (r(b, e - 1) - r(b - 1, e - 1) - r(b, e) + r(b - 1, e))
        found += [(b, None)] * (r(b, last) - r(b - 1, last))
    return sorted(found, key=by_hand)


class LivesTest(unittest.TestCase):
    def test_edges(self):
        told = {(2, 5): [2, 3, 4], (0, 1): [0], (3, 4): [3], (4, None): [4, 5, 6, 7], (0, None): list(range(8))}
        for bar, times in told.items():
            for moment in range(-3, 8):
                with self.subTest(bar=bar, time=moment):
                    self.assertIs(lives(bar, moment), moment in times)

    def test_far_times(self):
        self.assertIs(lives((3, None), 1000), True)
        self.assertIs(lives((3, None), -1000), False)
        self.assertIs(lives((3, 40), 1000), False)


class SortedTest(unittest.TestCase):
    def test_told_order(self):
        told = [(0, 1), (0, 7), (0, None), (0, None), (1, 2), (1, 2), (1, 10), (1, None), (2, 3), (9, None)]
        chance = random.Random(11)
        for _ in range(20):
            drawn = list(told)
            chance.shuffle(drawn)
            for passed in (drawn, tuple(drawn)):
                found = sorted_bars(passed)
                self.assertEqual(found, told)
                self.assertIs(type(found), list)

    def test_none_is_last_and_zero_is_not(self):
        self.assertEqual(sorted_bars([(0, None), (0, 40), (0, 2)]), [(0, 2), (0, 40), (0, None)])
        self.assertEqual(sorted_bars([(1, None), (0, None)]), [(0, None), (1, None)])

    def test_empty_and_new(self):
        self.assertEqual(sorted_bars([]), [])
        passed = [(1, 2), (0, None)]
        found = sorted_bars(passed)
        found.clear()
        self.assertEqual(passed, [(1, 2), (0, None)])
        passed = sorted_bars(passed)
        self.assertIsNot(sorted_bars(passed), passed)


class RankBetweenTest(unittest.TestCase):
    def test_at_all_times(self):
        chance = random.Random(21)
        for base in BASES:
            for _ in range(6):
                row = any_row(chance, base, chance.randrange(5), 4)
                found = bars(row)
                for start in range(-3, row.last + 4):
                    for end in range(start, row.last + 4):
                        told = 0 if start < 0 else rank_by_rows(row.carry(start, end))
                        self.assertEqual(rank_between(row, start, end), told)
                        counted = [bar for bar in found if bar[0] <= start and is_alive(bar, end)]
                        self.assertEqual(len(counted), told)

    def test_of_told_bars(self):
        row = row_of_bars(5, 6, [(0, 3), (1, 5), (1, None), (4, 6)])
        told = {(0, 0): 1, (0, 2): 1, (0, 3): 0, (1, 2): 3, (1, 3): 2, (1, 5): 1, (4, 4): 3, (4, 5): 2, (4, 6): 1}
        told.update({(-1, 2): 0, (-1000, 1000): 0, (-5, -5): 0, (6, 1000): 1, (1000, 1000): 1, (3, 4): 2})
        for (start, end), count in told.items():
            self.assertEqual(rank_between(row, start, end), count, (start, end))

    def test_end_ahead_of_the_start(self):
        row = row_of_bars(5, 2, [(0, None)])
        for start, end in ((1, 0), (0, -1), (-1, -2), (1000, 999), (0, -(10 ** 19)), (10 ** 19, 3)):
            with self.assertRaises(InvalidTime):
                rank_between(row, start, end)


class BarsTest(unittest.TestCase):
    def test_told_rows(self):
        step = Matrix(5, 2, [[1, 2]])
        self.assertEqual(bars(Row(5, [2, 1], [step])), [(0, 1), (0, None)])
        self.assertEqual(bars(Row(5, [2, 1, 0], [step, Matrix(5, 1, [])])), [(0, 1), (0, 2)])
        self.assertEqual(bars(Row(5, [1, 1], [Matrix.zero(5, 1, 1)])), [(0, 1), (1, None)])
        self.assertEqual(bars(Row(5, [0, 2, 2], [Matrix(5, 0, [[], []]), Matrix(5, 2, [[1, 1], [4, 4]])])),
                         [(1, 2), (1, None), (2, None)])
        self.assertEqual(bars(Row(2, [0], [])), [])
        self.assertEqual(bars(Row(2, [2], [])), [(0, None), (0, None)])

    def test_the_younger_dies(self):
        # At time 1 two vectors are born beside one that is older, and all three meet at time 2.
        steps = [Matrix(7, 1, [[1], [0], [0]]), Matrix(7, 3, [[1, 1, 1]])]
        self.assertEqual(bars(Row(7, [1, 3, 1], steps)), [(0, None), (1, 2), (1, 2)])

    def test_drawn_rows_against_the_formula(self):
        chance = random.Random(31)
        for base in BASES:
            for _ in range(30):
                row = any_row(chance, base, chance.randrange(7), 5)
                found = bars(row)
                self.assertIs(type(found), list)
                self.assertEqual(found, bars_by_formula(row))

    def test_given_bars_behind_changes_of_base(self):
        chance = random.Random(41)
        for base in BASES:
            for _ in range(25):
                last = chance.randrange(8)
                told = any_bars(chance, last, chance.randrange(7))
                row, _ = moved(chance, row_of_bars(base, last, told))
                self.assertEqual(bars(row), sorted(told, key=by_hand))

    def test_of_rows_that_are_moved_in_time(self):
        chance = random.Random(51)
        for _ in range(20):
            row = any_row(chance, 3, 4, 4)
            found = bars(row)
            self.assertEqual(bars(row.prolonged(7)), found)
            self.assertEqual(bars(row.later(3)), [(b + 3, None if e is None else e + 3) for b, e in found])
            other = any_row(chance, 3, 2, 3)
            self.assertEqual(bars(row.plus(other)), sorted(found + bars(other), key=by_hand))

    def test_each_list_is_new(self):
        row = row_of_bars(5, 3, [(0, 1), (2, None)])
        bars(row).clear()
        self.assertEqual(bars(row), [(0, 1), (2, None)])
        self.assertEqual(row, row_of_bars(5, 3, [(0, 1), (2, None)]))

    def test_a_great_row_in_a_short_time(self):
        chance = random.Random(61)
        steps = [any_matrix(chance, 97, 40, 38) * any_matrix(chance, 97, 38, 40) for _ in range(40)]
        start = time.monotonic()
        found = bars(Row(97, [40] * 41, steps))
        self.assertLess(time.monotonic() - start, 20)
        self.assertEqual(sum((41 if e is None else e) - b for b, e in found), 40 * 41)


class RowOfBarsTest(unittest.TestCase):
    def test_told_row(self):
        row = row_of_bars(5, 3, [(1, None), (0, 2), (1, 3)])
        self.assertEqual((row.base, row.dims, row.last), (5, (1, 3, 2, 1), 3))
        # The coordinates follow the list: at time 1 those of (1, None), (0, 2) and (1, 3).
        self.assertEqual(row.steps[0].rows, ((0,), (1,), (0,)))
        self.assertEqual(row.steps[1].rows, ((1, 0, 0), (0, 0, 1)))
        self.assertEqual(row.steps[2].rows, ((1, 0),))

    def test_doubles_have_coordinates_of_their_own(self):
        row = row_of_bars(2, 2, [(0, 2), (0, 2), (1, 2)])
        self.assertEqual(row.steps[0].rows, ((1, 0), (0, 1), (0, 0)))
        self.assertEqual(row.steps[1].rows, ())

    def test_no_bars(self):
        self.assertEqual(row_of_bars(5, 0, []), Row(5, [0], []))
        self.assertEqual(row_of_bars(5, 2, ()).dims, (0, 0, 0))

    def test_bars_in_any_order(self):
        chance = random.Random(71)
        for base in BASES:
            for _ in range(20):
                last = chance.randrange(7)
                told = any_bars(chance, last, chance.randrange(8))
                passed = list(told)
                row = row_of_bars(base, last, passed)
                self.assertEqual(passed, told)
                self.assertEqual(row, row_of_bars(base, last, tuple(told)))
                self.assertEqual((row.base, row.last), (base, last))
                living = [[place for place, bar in enumerate(told) if is_alive(bar, t)] for t in range(last + 1)]
                self.assertEqual(row.dims, tuple(map(len, living)))
                for t, step in enumerate(row.steps):
                    for at, place in enumerate(living[t]):
                        unit = tuple(int(other == place) for other in living[t + 1])
                        self.assertEqual(step.column(at), unit)
                self.assertEqual(bars(row), sorted(told, key=by_hand))

    def test_refused_bars_at_any_place(self):
        right = [(0, 4), (2, None), (1, 3)]
        self.assertEqual(row_of_bars(5, 4, right).last, 4)
        for bar in (
            (-1, 2), (-1, None), (5, None), (5, 6), (0, 5), (3, 3), (3, 2), (0, 0), (4, 4), (4, 5), (2, 0), (2, -1),
            (-(10 ** 19), None), (10 ** 19, None), (0, 10 ** 19), (0, -(10 ** 19)), (10 ** 19, 10 ** 19 + 1),
        ):
            for place in range(4):
                with self.subTest(bar=bar, place=place):
                    with self.assertRaises(InvalidRow):
                        row_of_bars(5, 4, right[:place] + [bar] + right[place:])

    def test_outermost_bars(self):
        for bar in ((4, None), (0, None), (3, 4), (0, 4), (0, 1)):
            self.assertEqual(bars(row_of_bars(5, 4, [bar])), [bar])
        with self.assertRaises(InvalidRow):
            row_of_bars(5, 0, [(0, 1)])

    def test_the_passed_list_may_change_afterwards(self):
        passed = [(0, 1), (1, None)]
        row = row_of_bars(5, 2, passed)
        passed.pop()
        self.assertEqual(bars(row), [(0, 1), (1, None)])


if __name__ == "__main__":
    unittest.main()
