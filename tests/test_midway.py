"""Point [28]: the row between two rows, and the two weavings."""

import random
import time
import unittest

from barswoven.bars import bars, row_of_bars
from barswoven.comparing import compare
from barswoven.errors import InvalidRow, InvalidWeaving
from barswoven.matrix import Matrix
from barswoven.midway import midway
from barswoven.pairing import least_pairing
from barswoven.row import Row
from barswoven.weaving import Weaving

from drawn import BASES, any_bars, any_matrix, any_row, placed, shaken


def drawn_rows(seed, times):
    """Rows of moved bars, of bars drawn apart, and of drawn steps, with different last times."""
    chance = random.Random(seed)
    for base in BASES:
        for _ in range(times):
            last = chance.randrange(1, 8)
            told = any_bars(chance, last, chance.randrange(1, 5))
            near, _ = shaken(chance, told, last, chance.randrange(4))
            first, _, _ = placed(chance, base, last + chance.randrange(3), told)
            yield first, placed(chance, base, last + chance.randrange(3), near)[0]
            end = chance.randrange(1, 10)
            yield first, placed(chance, base, end, any_bars(chance, end, chance.randrange(1, 5)))[0]
            yield any_row(chance, base, chance.randrange(6), 3), any_row(chance, base, chance.randrange(6), 3)


class MidwayTest(unittest.TestCase):
    def check_weaving(self, weaving, lag):
        self.assertIs(type(weaving), Weaving)
        self.assertEqual((weaving.lag, weaving.forth.lag, weaving.back.lag), (lag, lag, lag))
        first, second = weaving.first, weaving.second
        self.assertEqual((weaving.forth.first, weaving.back.second), (first, first))
        self.assertEqual((weaving.forth.second, weaving.back.first), (second, second))
        for t in range(max(first.last, second.last) + 2):
            there, back = weaving.forth.part(t), weaving.back.part(t)
            self.assertEqual(weaving.back.part(t + lag) * there, first.carry(t, t + 2 * lag))
            self.assertEqual(weaving.forth.part(t + lag) * back, second.carry(t, t + 2 * lag))
            self.assertEqual(
                weaving.forth.part(t + 1) * first.step(t), second.step(t + lag) * there,
            )
            self.assertEqual(weaving.back.part(t + 1) * second.step(t), first.step(t + lag) * back)

    def judged(self, first, second, lag, least):
        found = midway(first, second, lag=lag)
        self.assertIs(type(found), tuple)
        one, other = found
        self.check_weaving(one, lag)
        self.check_weaving(other, least - lag)
        self.assertEqual((one.first, other.second), (first, second))
        self.assertEqual(one.second, other.first)
        between = bars(one.second)
        self.assertEqual(least_pairing(bars(first), between)[1], lag)
        self.assertEqual(least_pairing(between, bars(second))[1], least - lag)
        self.assertEqual(midway(first, second, lag=lag), found)
        return one.second

    def refused(self, first, second, lags):
        for lag in lags:
            with self.assertRaises(InvalidWeaving):
                midway(first, second, lag=lag)

    def test_each_lag(self):
        seen = []
        for first, second in drawn_rows(28, 14):
            told = least_pairing(bars(first), bars(second))
            if told[0] == "apart":
                self.refused(first, second, (-1, 0, 1, 2, 100))
                seen.append("apart")
                continue
            least = told[1]
            self.refused(first, second, (-1, least + 1, -(10 ** 19), 10 ** 19))
            for lag in range(least + 1):
                self.judged(first, second, lag, least)
                self.judged(second, first, lag, least)
            seen.append(least)
        for told in ("apart", 0, 1, 2, 3, 4):
            self.assertGreater(seen.count(told), 3, told)

    def test_told_rows(self):
        for told, other, least in (
            ([], [], 0), ([(0, 6)], [], 3), ([], [(1, 6)], 3), ([(1, None)], [(7, None)], 6),
            ([(0, 9), (2, 3)], [(5, 9)], 5), ([(0, 20), (0, 20)], [(3, 24), (2, 17), (5, 12)], 4),
            ([(0, 40)], [(1, 40)], 1), ([(0, 1)], [(39, 40)], 1), ([(3, 4)], [(4, 5)], 1),
        ):
            first, second = row_of_bars(3, 40, told), row_of_bars(3, 40, other)
            for lag in range(least + 1):
                self.judged(first, second, lag, least)
                self.judged(second, first, lag, least)
            self.refused(first, second, (-1, least + 1))

    def test_at_the_ends_it_is_like_the_rows(self):
        for first, second in drawn_rows(38, 3):
            told = least_pairing(bars(first), bars(second))
            if told[0] == "within":
                self.assertEqual(least_pairing(bars(self.judged(first, second, 0, told[1])), bars(first))[1], 0)
                between = self.judged(first, second, told[1], told[1])
                self.assertEqual(least_pairing(bars(between), bars(second))[1], 0)

    def test_a_row_with_itself(self):
        for first, _ in drawn_rows(48, 2):
            self.judged(first, first, 0, 0)
            self.refused(first, first, (-1, 1))

    def test_other_bases_first(self):
        for told in ([], [(0, None)]):
            first, second = row_of_bars(5, 2, told), row_of_bars(7, 2, [])
            for lag in (-1, 0, 1, 100):
                with self.assertRaises(InvalidRow):
                    midway(first, second, lag=lag)
                with self.assertRaises(InvalidRow):
                    midway(second, first, lag=lag)

    def test_the_lag_is_passed_by_keyword(self):
        row = row_of_bars(5, 2, [])
        with self.assertRaises(TypeError):
            midway(row, row, 0)

    def test_greatest_rows(self):
        chance = random.Random(58)
        start = time.monotonic()
        steps = [any_matrix(chance, 97, 40, 38) * any_matrix(chance, 97, 38, 40) for _ in range(40)]
        first = Row(97, [40] * 41, steps)
        second = Row(97, [40] * 41, [Matrix.identity(97, 40)] * 20 + steps[:20])
        least = compare(first, second)[1].lag
        for lag in sorted({0, least // 2}):
            one, other = midway(first, second, lag=lag)
            self.assertEqual((one.lag, other.lag), (lag, least - lag))
        self.assertLess(time.monotonic() - start, 60)


if __name__ == "__main__":
    unittest.main()
