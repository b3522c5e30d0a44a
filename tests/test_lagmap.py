"""Points [17] to [19]: maps with a lag, their sums and products, image and lost."""

import random
import unittest

from barswoven.bars import row_of_bars
from barswoven.errors import InvalidMap, InvalidRow, WovenError
from barswoven.lagmap import LagMap, image, lost
from barswoven.matrix import Matrix, block
from barswoven.row import Row

from drawn import BASES, any_matrix, any_placed, any_row, factors_of, map_of, parts_of, rank_by_rows


def drawn_pairs(seed, times):
    """Two placed rows over one base, often with different last times, and a lag."""
    chance = random.Random(seed)
    for base in BASES:
        for _ in range(times):
            one = any_placed(chance, base, chance.randrange(6), 5)
            other = any_placed(chance, base, chance.randrange(6), 5)
            yield chance, one, other, chance.randrange(4)


def drawn_maps(seed, times):
    for chance, one, other, lag in drawn_pairs(seed, times):
        yield map_of(chance, one, other, lag)


def with_entry(part, at, place):
    rows = [list(row) for row in part.rows]
    rows[at][place] = (rows[at][place] + 1) % part.base
    return Matrix(part.base, part.width, rows)


def squares_agree(first, second, lag, parts):
    return all(
        parts[time + 1] * first.step(time) == second.step(time + lag) * parts[time] for time in range(len(parts) - 1)
    )


class FieldTest(unittest.TestCase):
    def test_what_is_kept(self):
        for chance, one, other, lag in drawn_pairs(17, 12):
            factors = factors_of(chance, one[0].base, one[2], other[2], lag)
            parts = parts_of(one, other, factors, lag)
            for passed in (parts, tuple(parts)):
                found = LagMap(one[0], other[0], lag, passed)
                self.assertEqual((found.first, found.second, found.lag), (one[0], other[0], lag))
                self.assertEqual(found.parts, tuple(parts))
                self.assertIs(type(found.parts), tuple)
            top = max(one[0].last, other[0].last)
            self.assertEqual(len(found.parts), top + 1)
            for time in range(top + 6):
                self.assertEqual(found.part(time), parts[min(time, top)])
            self.assertEqual(found.part(1000), parts[-1])

    def test_drawn_maps_are_not_all_zero(self):
        seen = [all(part.is_zero for part in lagmap.parts) for lagmap in drawn_maps(27, 12)]
        self.assertGreater(seen.count(False), 20)

    def test_by_keyword(self):
        row = Row(5, [1], [])
        parts = [Matrix.identity(5, 1)]
        self.assertEqual(LagMap(first=row, second=row, lag=0, parts=parts), LagMap(row, row, 0, parts))

    def test_the_passed_list_may_change_afterwards(self):
        row = Row(5, [1, 1], [Matrix.identity(5, 1)])
        parts = [Matrix(5, 1, [[2]])] * 2
        found = LagMap(row, row, 0, parts)
        self.assertEqual(parts, [Matrix(5, 1, [[2]])] * 2)
        parts[0] = Matrix.zero(5, 1, 1)
        parts.pop()
        self.assertEqual(found.parts, (Matrix(5, 1, [[2]]),) * 2)

    def test_equality(self):
        row, other = row_of_bars(5, 2, [(0, None)]), row_of_bars(5, 3, [(0, None)])
        unit = Matrix.identity(5, 1)
        found = LagMap(row, row, 1, [unit] * 3)
        self.assertIs(found == LagMap(row, row_of_bars(5, 2, [(0, None)]), 1, (unit,) * 3), True)
        self.assertIs(found != LagMap(row, row, 1, [unit] * 3), False)
        for second in (
            LagMap(row, row, 2, [unit] * 3), LagMap(row, row, 1, [unit.scaled(2)] * 3), LagMap(row, row, 0, [unit] * 3),
            LagMap(row, other, 1, [unit] * 4), LagMap(other, row, 1, [unit] * 4), LagMap(other, other, 1, [unit] * 4),
        ):
            self.assertIs(found == second, False)
            self.assertIs(found != second, True)

    def test_rows_that_differ_where_no_part_tells_it(self):
        empty = Matrix.zero(5, 0, 0)
        one, two = Row(5, [0, 0], [empty]), Row(5, [0], [])
        self.assertIs(LagMap(one, two, 0, [empty] * 2) == LagMap(one, one, 0, [empty] * 2), False)
        self.assertIs(LagMap(two, one, 0, [empty] * 2) == LagMap(one, one, 0, [empty] * 2), False)

    def test_objects_of_other_kinds(self):
        row = Row(5, [1], [])
        found = LagMap(row, row, 0, [Matrix.identity(5, 1)])

        class Alike:
            first, second, lag, parts = row, row, 0, (Matrix.identity(5, 1),)

        for other in (None, 0, True, "", (), [], {}, row, Matrix.identity(5, 1), object(), LagMap, Alike()):
            self.assertIs(found == other, False)
            self.assertIs(other == found, False)
            self.assertIs(found != other, True)


class WrongInputTest(unittest.TestCase):
    def refused(self, *told):
        with self.assertRaises(InvalidMap):
            LagMap(*told)

    def test_kind_of_the_error(self):
        row = Row(5, [0], [])
        with self.assertRaises(WovenError):
            LagMap(row, row, -1, [Matrix.zero(5, 0, 0)])

    def test_other_bases(self):
        for size in (0, 1):
            one, other = Row(5, [size], []), Row(7, [size], [])
            for base in (5, 7):
                self.refused(one, other, 0, [Matrix.identity(base, size)])
                self.refused(other, one, 0, [Matrix.identity(base, size)])

    def test_negative_lags(self):
        row = row_of_bars(5, 2, [(0, None)])
        for lag in (-1, -2, -3, -100, -(10 ** 19)):
            self.refused(row, row, lag, [Matrix.identity(5, 1)] * 3)
            self.refused(row, row, lag, [Matrix.zero(5, 0, 1)] * 3)
            self.refused(Row(5, [0], []), Row(5, [0], []), lag, [Matrix.zero(5, 0, 0)])

    def test_parts_too_few_or_too_many(self):
        for lagmap in drawn_maps(37, 4):
            told = lagmap.first, lagmap.second, lagmap.lag
            parts = lagmap.parts
            self.assertEqual(LagMap(*told, parts), lagmap)
            self.refused(*told, parts[:-1])
            self.refused(*told, parts[1:])
            self.refused(*told, parts + parts[-1:])
            self.refused(*told, parts[:1] + parts)
            self.refused(*told, ())

    def test_a_part_of_another_base_or_size(self):
        for lagmap in drawn_maps(47, 4):
            told = lagmap.first, lagmap.second, lagmap.lag
            parts = lagmap.parts
            for time, part in enumerate(parts):
                base, height, width = part.base, part.height, part.width
                other = 5 if base != 5 else 3
                for changed in (
                    Matrix.zero(other, height, width), Matrix.zero(base, height + 1, width),
                    Matrix.zero(base, height, width + 1), Matrix.zero(base, height + 1, width + 1),
                ):
                    self.refused(*told, parts[:time] + (changed,) + parts[time + 1:])
                if height != width:
                    self.refused(*told, parts[:time] + (Matrix.zero(base, width, height),) + parts[time + 1:])

    def test_entries_so_that_a_square_does_not_agree(self):
        seen = {True: 0, False: 0}
        for lagmap in drawn_maps(57, 8):
            first, second, lag, parts = lagmap.first, lagmap.second, lagmap.lag, lagmap.parts
            for time, part in enumerate(parts):
                for at in range(part.height):
                    for place in range(part.width):
                        changed = parts[:time] + (with_entry(part, at, place),) + parts[time + 1:]
                        agrees = squares_agree(first, second, lag, changed)
                        seen[agrees] += 1
                        if agrees:
                            self.assertEqual(LagMap(first, second, lag, changed).parts, changed)
                        else:
                            self.refused(first, second, lag, changed)
        self.assertGreater(seen[False], 200)

    def test_the_last_square(self):
        # The rows differ in their last times: the squares go on to the greater one.
        one, other = Row(5, [1], []), row_of_bars(5, 2, [(0, None)])
        unit = Matrix.identity(5, 1)
        for first, second in ((one, other), (other, one)):
            LagMap(first, second, 0, [unit] * 3)
            self.refused(first, second, 0, [unit, unit, unit.scaled(2)])
            self.refused(first, second, 0, [unit.scaled(2), unit, unit])
            self.refused(first, second, 0, [unit])

    def test_a_lag_that_does_not_fit_the_sizes(self):
        row = row_of_bars(5, 3, [(0, 2), (1, None)])
        LagMap.carrying(row, 1)
        self.refused(row, row, 0, LagMap.carrying(row, 1).parts)
        self.refused(row, row, 10 ** 19, LagMap.carrying(row, 1).parts)


class MadeTest(unittest.TestCase):
    def test_carrying(self):
        chance = random.Random(67)
        for base in BASES:
            for _ in range(6):
                row = any_row(chance, base, chance.randrange(6), 4)
                for lag in [*range(row.last + 3), 100]:
                    found = LagMap.carrying(row, lag)
                    self.assertEqual((found.first, found.second, found.lag), (row, row, lag))
                    told = tuple(row.carry(time, time + lag) for time in range(row.last + 1))
                    self.assertEqual(found.parts, told)
                    self.assertEqual(LagMap.carrying(row, lag), found)

    def test_carrying_with_a_negative_lag(self):
        for lag in (-1, -2, -(10 ** 19)):
            with self.assertRaises(InvalidMap):
                LagMap.carrying(Row(5, [1], []), lag)

    def test_then(self):
        for chance, one, other, lag in drawn_pairs(77, 10):
            third = any_placed(chance, one[0].base, chance.randrange(6), 5)
            a, b = map_of(chance, one, other, lag), map_of(chance, other, third, chance.randrange(4))
            found = a.then(b)
            self.assertEqual((found.first, found.second, found.lag), (one[0], third[0], a.lag + b.lag))
            self.assertEqual(len(found.parts), max(one[0].last, third[0].last) + 1)
            for time in range(8):
                self.assertEqual(found.part(time), b.part(time + a.lag) * a.part(time))

    def test_then_carries(self):
        for lagmap in drawn_maps(87, 4):
            before = LagMap.carrying(lagmap.first, 2).then(lagmap)
            behind = lagmap.then(LagMap.carrying(lagmap.second, 2))
            self.assertEqual(before, behind)
            self.assertEqual(lagmap.then(LagMap.carrying(lagmap.second, 0)), lagmap)
            self.assertEqual(LagMap.carrying(lagmap.first, 0).then(lagmap), lagmap)

    def test_then_of_another_row(self):
        row = row_of_bars(5, 2, [(0, None)])
        for other in (row.prolonged(3), row_of_bars(5, 2, [(1, None)]), row_of_bars(7, 2, [(0, None)])):
            with self.assertRaises(InvalidMap):
                LagMap.carrying(row, 1).then(LagMap.carrying(other, 1))
            with self.assertRaises(InvalidMap):
                LagMap.carrying(other, 1).then(LagMap.carrying(row, 1))

    def test_plus(self):
        for chance, one, other, lag in drawn_pairs(97, 10):
            a, b = map_of(chance, one, other, lag), map_of(chance, one, other, lag)
            found = a + b
            self.assertEqual((found.first, found.second, found.lag), (one[0], other[0], lag))
            self.assertEqual(found.parts, tuple(x + y for x, y in zip(a.parts, b.parts)))
            for time in range(8):
                self.assertEqual(found.part(time), a.part(time) + b.part(time))

    def test_plus_of_another_row_or_lag(self):
        row, other = row_of_bars(5, 2, [(0, None)]), row_of_bars(5, 2, [(0, None), (0, None)])
        longer, seven = row.prolonged(3), row_of_bars(7, 2, [(0, None)])
        told = LagMap.carrying(row, 1)
        unit, tall = Matrix.identity(5, 1), Matrix(5, 1, [[1], [0]])
        for second in (
            LagMap.carrying(row, 0), LagMap.carrying(row, 2), LagMap(row, other, 1, [tall] * 3),
            LagMap(other, row, 1, [tall.transposed()] * 3), LagMap(row, longer, 1, [unit] * 4),
            LagMap(longer, row, 1, [unit] * 4), LagMap.carrying(longer, 1), LagMap.carrying(seven, 1),
        ):
            for one, two in ((told, second), (second, told)):
                with self.assertRaises(InvalidMap):
                    one + two

    def test_beside(self):
        for chance, one, other, lag in drawn_pairs(107, 6):
            base = one[0].base
            three, four = (any_placed(chance, base, chance.randrange(6), 4) for _ in range(2))
            a, b = map_of(chance, one, other, lag), map_of(chance, three, four, lag)
            found = a.beside(b)
            self.assertEqual(found.lag, lag)
            self.assertEqual(found.first, one[0].plus(three[0]))
            self.assertEqual(found.second, other[0].plus(four[0]))
            for time in range(9):
                self.assertEqual(found.part(time), block(a.part(time), b.part(time)))

    def test_beside_of_another_lag_or_base(self):
        row, other = row_of_bars(5, 2, [(0, None)]), row_of_bars(7, 2, [(0, None)])
        with self.assertRaises(InvalidMap):
            LagMap.carrying(row, 1).beside(LagMap.carrying(row, 2))
        with self.assertRaises(InvalidRow):
            LagMap.carrying(row, 1).beside(LagMap.carrying(other, 1))
        # The lags are named first.
        with self.assertRaises(InvalidMap):
            LagMap.carrying(row, 1).beside(LagMap.carrying(other, 2))

    def test_the_maps_stay(self):
        for lagmap in drawn_maps(117, 3):
            told = (lagmap.first, lagmap.second, lagmap.lag, lagmap.parts)
            for _ in range(2):
                again = lagmap.beside(lagmap), lagmap + lagmap, image(lagmap), lost(lagmap)
                self.assertEqual((lagmap.beside(lagmap), lagmap + lagmap, image(lagmap), lost(lagmap)), again)
                self.assertEqual((lagmap.first, lagmap.second, lagmap.lag, lagmap.parts), told)


class IntoAndOntoTest(unittest.TestCase):
    def test_against_the_ranks(self):
        seen = []
        for lagmap in drawn_maps(127, 40):
            ranks = [rank_by_rows(part) for part in lagmap.parts]
            into = all(count == part.width for count, part in zip(ranks, lagmap.parts))
            onto = all(count == part.height for count, part in zip(ranks, lagmap.parts))
            self.assertIs(lagmap.is_into(), into)
            self.assertIs(lagmap.is_onto(), onto)
            seen.append((into, onto))
        self.assertEqual(len(set(seen)), 4)

    def test_told_maps(self):
        row, none = row_of_bars(5, 2, [(0, 2)]), row_of_bars(5, 2, [])
        zero = LagMap(row, row, 0, [Matrix.zero(5, size, size) for size in row.dims])
        self.assertEqual((zero.is_into(), zero.is_onto()), (False, False))
        still = LagMap.carrying(row, 0)
        self.assertEqual((still.is_into(), still.is_onto()), (True, True))
        # The space of the second row that counts is later by the lag.
        late = LagMap.carrying(row, 2)
        self.assertEqual((late.is_into(), late.is_onto()), (False, True))
        from_none = LagMap(none, row, 0, [Matrix.zero(5, size, 0) for size in row.dims])
        self.assertEqual((from_none.is_into(), from_none.is_onto()), (True, False))
        to_none = LagMap(row, none, 0, [Matrix.zero(5, 0, size) for size in row.dims])
        self.assertEqual((to_none.is_into(), to_none.is_onto()), (False, True))

    def test_one_time_tells(self):
        # The map is neither into nor onto at the last time alone.
        first, second = row_of_bars(5, 2, [(2, None)]), row_of_bars(5, 2, [(2, None)])
        zero = LagMap(first, second, 0, [Matrix.zero(5, size, size) for size in first.dims])
        self.assertEqual((zero.is_into(), zero.is_onto()), (False, False))


class ImageTest(unittest.TestCase):
    def judged(self, lagmap):
        answer = image(lagmap)
        self.assertIs(type(answer), tuple)
        onto, into = answer
        self.assertEqual((onto.lag, into.lag), (0, lagmap.lag))
        self.assertEqual((onto.first, into.second), (lagmap.first, lagmap.second))
        self.assertEqual(onto.second, into.first)
        self.assertEqual(onto.then(into), lagmap)
        between = onto.second
        for time in range(max(between.last, lagmap.first.last, lagmap.second.last) + 3):
            self.assertEqual(rank_by_rows(onto.part(time)), between.dim(time))
            self.assertEqual(rank_by_rows(into.part(time)), between.dim(time))
            self.assertEqual(into.part(time) * onto.part(time), lagmap.part(time))
        self.assertIs(onto.is_onto(), True)
        self.assertIs(into.is_into(), True)

    def test_drawn_maps(self):
        for lagmap in drawn_maps(137, 25):
            self.judged(lagmap)

    def test_carries_and_zero(self):
        chance = random.Random(147)
        for base in BASES:
            row = any_row(chance, base, 5, 4)
            for lag in range(4):
                self.judged(LagMap.carrying(row, lag))
            other = any_row(chance, base, 3, 4)
            zero = [Matrix.zero(base, other.dim(time + 1), row.dim(time)) for time in range(6)]
            self.judged(LagMap(row, other, 1, zero))


class LostTest(unittest.TestCase):
    def judged(self, lagmap):
        found = lost(lagmap)
        self.assertEqual((found.lag, found.second), (0, lagmap.first))
        self.assertIs(found.is_into(), True)
        for time in range(max(found.first.last, lagmap.first.last, lagmap.second.last) + 3):
            part = found.part(time)
            self.assertEqual(part.width, found.first.dim(time))
            self.assertEqual(rank_by_rows(part), part.width)
            # What is met is taken to zero, and there is no more that is.
            self.assertTrue((lagmap.part(time) * part).is_zero)
            self.assertEqual(part.width, lagmap.part(time).width - rank_by_rows(lagmap.part(time)))

    def test_drawn_maps(self):
        for lagmap in drawn_maps(157, 25):
            self.judged(lagmap)

    def test_carries_and_zero(self):
        chance = random.Random(167)
        for base in BASES:
            row = any_row(chance, base, 5, 4)
            for lag in range(4):
                self.judged(LagMap.carrying(row, lag))
            other = any_row(chance, base, 8, 4)
            zero = [Matrix.zero(base, other.dim(time + 1), row.dim(time)) for time in range(9)]
            self.judged(LagMap(row, other, 1, zero))

    def test_greatest_maps(self):
        chance = random.Random(177)
        row = Row(97, [40] * 41, [any_matrix(chance, 97, 40, 39) * any_matrix(chance, 97, 39, 40) for _ in range(40)])
        found = LagMap.carrying(row, 10)
        self.judged(found)
        onto, into = image(found)
        self.assertEqual(onto.then(into), found)


if __name__ == "__main__":
    unittest.main()
