"""Points [32] and [35]: rows of the cycles, and the weaving of two growths with the same pieces."""

import random
import time
import unittest

from barswoven.bars import bars
from barswoven.errors import InvalidGrowth
from barswoven.growth import Growth
from barswoven.holes import hole_row, is_hole_row, weave_heights
from barswoven.matrix import Matrix
from barswoven.pairing import least_pairing
from barswoven.reducing import hole_bars
from barswoven.row import Row
from barswoven.weaving import Weaving

from drawn import change_of_base
from grown import (
    all_entries, any_entries, borders_at, drawn_entries, is_border, is_cycle, judge_hole_row, moved_heights, of_degree,
    plane, plus_times, turned_band, with_faces,
)

BASES = (2, 3, 97)
FAR = (-1, -2, -(10 ** 19), 10 ** 19)


def changed_row(chance, entries, degree, row, cycles):
    """A right pair made of another one: behind changes of base, and with multiples of borders added."""
    base = row.base
    changes = [change_of_base(chance, base, size) for size in row.dims]
    steps = [changes[time + 1][1] * step * changes[time][0] for time, step in enumerate(row.steps)]
    moved = []
    for time, found in enumerate(cycles):
        height = len(of_degree(entries, degree))
        vectors = (Matrix.of_columns(base, height, found) * changes[time][0]).columns()
        for border in borders_at(entries, degree, time, base):
            vectors = [
                plus_times(vector, chance.choice((0, chance.randrange(base))), border, base) for vector in vectors
            ]
        moved.append(tuple(tuple(vector) for vector in vectors))
    return Row(base, row.dims, steps), tuple(moved)


def with_vector(cycles, time, place, vector):
    found = cycles[time][:place] + (tuple(vector),) + cycles[time][place + 1:]
    return cycles[:time] + (found,) + cycles[time + 1:]


def with_entry(vector, at, entry):
    return vector[:at] + (entry,) + vector[at + 1:]


def spoilt_cycles(chance, entries, degree, row, cycles):
    """The row with cycles that have one thing spoilt, or are still right in another way."""
    base, last = row.base, len(cycles) - 1
    for time, found in enumerate(cycles):
        for place, vector in enumerate(found):
            if vector:
                at = chance.randrange(len(vector))
                entry = vector[at]
                for number in (*FAR, base, entry + base, entry - base, (entry + 1) % base, 0):
                    yield row, with_vector(cycles, time, place, with_entry(vector, at, number))
            yield row, with_vector(cycles, time, place, vector + (0,))
            yield row, with_vector(cycles, time, place, vector[:-1])
            yield row, with_vector(cycles, time, place, (0,) * len(vector))
            yield row, with_vector(cycles, time, place, [2 * entry % base for entry in vector])
            left, doubled = found[:place] + found[place + 1:], found[:place] + (vector,) + found[place:]
            yield row, cycles[:time] + (left,) + cycles[time + 1:]
            yield row, cycles[:time] + (doubled,) + cycles[time + 1:]
            yield row, with_vector(cycles, time, place, found[0])
        yield row, cycles[:time] + cycles[time + 1:]
        yield row, cycles[:time] + (found,) + cycles[time:]
        yield row, cycles[:time] + (found[::-1],) + cycles[time + 1:]
        for place, vector in enumerate(found):
            # A border that comes later, and one that is there already.
            for border in borders_at(entries, degree, last, base)[:6]:
                yield row, with_vector(cycles, time, place, plus_times(vector, 1, border, base))
    yield row, ()
    yield row, cycles[::-1]
    yield row, cycles + ((),)


def spoilt_rows(chance, row, cycles):
    """A row with one thing spoilt, and the cycles."""
    base = row.base
    for time, step in enumerate(row.steps):
        if step.height and step.width:
            at, place = chance.randrange(step.height), chance.randrange(step.width)
            for number in range(min(base, 4)):
                rows = [list(line) for line in step.rows]
                rows[at][place] = number
                changed = row.steps[:time] + (Matrix(base, step.width, rows),) + row.steps[time + 1:]
                yield Row(base, row.dims, changed), cycles
    for time in range(row.last + 1):
        for size in (row.dims[time] + 1, max(row.dims[time] - 1, 0)):
            dims = row.dims[:time] + (size,) + row.dims[time + 1:]
            steps = [fitted(step, dims[at + 1], dims[at]) for at, step in enumerate(row.steps)]
            yield Row(base, dims, steps), cycles
            for vector in ((0,) * len((cycles[time] + ((),))[0]), *cycles[time][:1]):
                found = cycles[time] + (vector,) if size > row.dims[time] else cycles[time][:-1]
                yield Row(base, dims, steps), cycles[:time] + (found,) + cycles[time + 1:]
    yield row.prolonged(row.last + 1), cycles
    yield row.prolonged(row.last + 1), cycles + cycles[-1:]
    yield row.earlier(1), cycles
    yield row.earlier(1), cycles[1:]
    yield row.later(1), cycles
    yield row.later(1), ((),) + cycles
    yield Row(base, row.dims[:1], []), cycles[:1]


def fitted(matrix, height, width):
    """The matrix with zeros added, or entries left out, at the lower right."""
    rows = [[*line, 0][:width] for line in [*matrix.rows, (0,) * matrix.width]]
    return Matrix(matrix.base, width, rows[:height])


class HoleRowTest(unittest.TestCase):
    def judged(self, entries, degree, base):
        growth = Growth(entries)
        found = hole_row(growth, degree, base=base)
        self.assertIs(type(found), tuple)
        row, cycles = found
        self.assertIs(type(row), Row)
        self.assertEqual((row.base, row.last), (base, growth.last))
        self.assertIs(type(cycles), tuple)
        for vectors in cycles:
            self.assertIs(type(vectors), tuple)
            self.assertTrue(all(type(vector) is tuple for vector in vectors))
        self.assertTrue(judge_hole_row(entries, degree, row, cycles))
        self.assertIs(is_hole_row(growth, degree, row, cycles), True)
        self.assertEqual(bars(row), hole_bars(growth, degree, base=base))
        self.assertEqual(hole_row(growth, degree, base=base), found)
        return found

    def test_drawn_growths(self):
        holes = 0
        for entries in all_entries(32, 60):
            for base in BASES:
                for degree in range(4):
                    row, _ = self.judged(entries, degree, base)
                    holes += degree > 0 and max(row.dims) > 0
        self.assertGreater(holes, 50)

    def test_no_pieces(self):
        for base in BASES:
            for degree in range(4):
                row, cycles = self.judged([], degree, base)
                self.assertEqual((row, cycles), (Row(base, [0], []), ((),)))
                row, cycles = self.judged([((7,), 3)], degree, base)
                self.assertEqual(row.dims, (0, 0, 0, 1 if degree == 0 else 0))

    def test_a_told_growth(self):
        entries = [(piece, 2 * len(piece) - 2) for piece in with_faces([(1, 4, 6)])]
        row, cycles = self.judged(entries, 1, 5)
        self.assertEqual(row.dims, (0, 0, 1, 1, 0))
        for time in (2, 3):
            # The only cycle is once around the triangle: (1, 4) less (1, 6) plus (4, 6), times a number.
            (one, other, third), = cycles[time]
            self.assertEqual(((one + other) % 5, one), (0, third))
            self.assertGreater(one, 0)

    def test_the_base_is_passed_by_keyword(self):
        with self.assertRaises(TypeError):
            hole_row(Growth([]), 0, 2)
        with self.assertRaises(TypeError):
            weave_heights(Growth([]), Growth([]), 0, 2)

    def test_greatest_growths(self):
        chance = random.Random(42)
        start = time.monotonic()
        lines = with_faces([(one, other) for one in range(15) for other in range(one + 1, 15)])
        told = [(piece, (7 * place) % 5 + 10 * (len(piece) - 1)) for place, piece in enumerate(lines)]
        for entries in (told, any_entries(chance, 8, 120, 40), any_entries(chance, 10, 120, 40)):
            growth, moved = Growth(entries), Growth(moved_heights(chance, entries, 2))
            for base in (2, 97):
                for degree in range(4):
                    row, cycles = hole_row(growth, degree, base=base)
                    self.assertIs(is_hole_row(growth, degree, row, cycles), True)
                    self.assertEqual(bars(row), hole_bars(growth, degree, base=base))
                    weaving, _, others = weave_heights(growth, moved, degree, base=base)
                    self.assertIs(is_hole_row(moved, degree, weaving.second, others), True)
        self.assertLess(time.monotonic() - start, 60)


class IsHoleRowTest(unittest.TestCase):
    def judged(self, entries, growth, degree, row, cycles):
        told = judge_hole_row(entries, degree, row, cycles)
        self.assertIs(is_hole_row(growth, degree, row, cycles), told, (entries, degree, row.base, row.dims, cycles))
        self.seen[told] += 1
        return told

    def setUp(self):
        self.seen = {True: 0, False: 0}

    def test_changes_of_base_and_borders(self):
        chance = random.Random(43)
        changed = 0
        for entries in all_entries(44, 30):
            growth = Growth(entries)
            for base in BASES:
                for degree in range(4):
                    row, cycles = hole_row(growth, degree, base=base)
                    again = changed_row(chance, entries, degree, row, cycles)
                    self.assertTrue(self.judged(entries, growth, degree, *again))
                    changed += again != (row, cycles)
        self.assertGreater(changed, 100)

    def test_one_thing_spoilt(self):
        chance = random.Random(45)
        for entries in drawn_entries(random.Random(46), 45, points=5, most=24, last=4):
            growth = Growth(entries)
            for base in (2, 5):
                for degree in range(3):
                    row, cycles = changed_row(chance, entries, degree, *hole_row(growth, degree, base=base))
                    for spoilt in spoilt_rows(chance, row, cycles):
                        self.judged(entries, growth, degree, *spoilt)
                    for spoilt in spoilt_cycles(chance, entries, degree, row, cycles):
                        self.judged(entries, growth, degree, *spoilt)
        self.assertGreater(self.seen[False], 3000)
        self.assertGreater(self.seen[True], 300)

    def test_each_thing_spoilt_of_a_told_growth(self):
        chance = random.Random(47)
        hollow = [(piece, len(piece) - 1) for piece in with_faces([(0, 1, 2, 3), (5, 6)]) if len(piece) < 4]
        growth = Growth(hollow + [((0, 1, 2, 3), 4)])
        for degree in range(4):
            row, cycles = changed_row(chance, list(growth), degree, *hole_row(growth, degree, base=3))
            for _ in range(5):
                for spoilt in spoilt_rows(chance, row, cycles):
                    self.judged(list(growth), growth, degree, *spoilt)
                for spoilt in spoilt_cycles(chance, list(growth), degree, row, cycles):
                    self.judged(list(growth), growth, degree, *spoilt)
        self.assertGreater(self.seen[False], 300)

    def test_another_growth_degree_or_base(self):
        told = [turned_band(), plane(), [((0,), 0), ((1,), 0), ((0, 1), 2)], [((0,), 0), ((1,), 0)], []]
        for entries in told:
            for other in told:
                for degree in range(4):
                    for base in (2, 3):
                        row, cycles = hole_row(Growth(entries), degree, base=base)
                        self.judged(other, Growth(other), degree, row, cycles)
                        for another in range(4):
                            self.judged(entries, Growth(entries), another, row, cycles)
        # Ones and zeros are residues over each base, but need not be cycles.
        row, cycles = hole_row(Growth(plane()), 2, base=2)
        steps = [Matrix(3, step.width, step.rows) for step in row.steps]
        self.assertIs(is_hole_row(Growth(plane()), 2, Row(3, row.dims, steps), cycles), False)
        self.assertGreater(self.seen[False], 100)


class WeaveHeightsTest(unittest.TestCase):
    def judged(self, entries, others, degree, base):
        first, second = Growth(entries), Growth(others)
        found = weave_heights(first, second, degree, base=base)
        self.assertIs(type(found), tuple)
        weaving, ours, theirs = found
        self.assertIs(type(weaving), Weaving)
        heights = dict(others)
        lag = max((abs(height - heights[piece]) for piece, height in entries), default=0)
        self.assertEqual((weaving.lag, weaving.first.base), (lag, base))
        self.assertTrue(judge_hole_row(entries, degree, weaving.first, ours))
        self.assertTrue(judge_hole_row(others, degree, weaving.second, theirs))
        self.check_map(weaving.forth, entries, ours, others, theirs, degree)
        self.check_map(weaving.back, others, theirs, entries, ours, degree)
        self.assertLessEqual(least_pairing(bars(weaving.first), bars(weaving.second))[1], lag)
        self.assertEqual(weave_heights(first, second, degree, base=base), found)
        return weaving

    def check_map(self, lagmap, entries, cycles, others, targets, degree):
        """Each class is taken to the class of the same cycle, at times behind the last ones, too."""
        base, lag = lagmap.first.base, lagmap.lag
        order = [piece for piece, _ in of_degree(entries, degree)]
        for time in range(max(lagmap.first.last, lagmap.second.last) + 3):
            here = cycles[min(time, lagmap.first.last)]
            there = targets[min(time + lag, lagmap.second.last)]
            part = lagmap.part(time)
            self.assertEqual((part.width, part.height), (len(here), len(there)))
            for place, vector in enumerate(here):
                entry_of = dict(zip(order, vector))
                left = [entry_of[piece] for piece, _ in of_degree(others, degree)]
                self.assertTrue(is_cycle(others, degree, left, time + lag, base))
                for at, other in enumerate(there):
                    left = plus_times(left, -part.rows[at][place], other, base)
                self.assertTrue(is_border(others, degree, left, time + lag, base))

    def test_drawn_heights(self):
        chance = random.Random(35)
        seen = []
        for entries in all_entries(48, 25):
            for base, most in zip((*BASES, 2, 5), (0, 1, 2, 3, 1)):
                others = moved_heights(chance, entries, most)
                one, other = (entries, others) if chance.randrange(2) else (others, entries)
                for degree in range(4):
                    weaving = self.judged(one, other, degree, base)
                    if degree and not all(part.is_zero for part in weaving.forth.parts):
                        ends = weaving.first.last, weaving.second.last
                        seen.append((weaving.lag > 0, (ends[0] > ends[1]) - (ends[0] < ends[1])))
        for told in ((False, 0), (True, -1), (True, 0), (True, 1)):
            self.assertGreater(seen.count(told), 2, told)

    def test_the_band_and_the_plane(self):
        chance = random.Random(36)
        for told in (turned_band(), plane()):
            for _ in range(4):
                one, other = moved_heights(chance, told, 3), moved_heights(chance, told, 3)
                for degree in range(3):
                    for base in BASES:
                        self.judged(one, other, degree, base)
                        self.judged(told, other, degree, base)

    def test_a_growth_with_itself(self):
        for entries in all_entries(49, 8):
            for degree in range(4):
                weaving = self.judged(entries, entries[::-1], degree, 3)
                self.assertEqual(weaving, Weaving.still(weaving.first))

    def test_all_much_later(self):
        told = turned_band()
        late = [(piece, height + 30) for piece, height in told]
        for degree in range(3):
            self.assertEqual(self.judged(told, late, degree, 2).lag, 30)
            self.assertEqual(self.judged(late, told, degree, 2).lag, 30)

    def test_no_pieces(self):
        for degree in range(4):
            weaving, ours, theirs = weave_heights(Growth([]), Growth([]), degree, base=7)
            self.assertEqual((weaving, ours, theirs), (Weaving.still(Row(7, [0], [])), ((),), ((),)))

    def test_different_pieces(self):
        one = [((0,), 0), ((1,), 0), ((0, 1), 3)]
        for other in ([], one[:1], one[:2], one + [((2,), 0)], [((0,), 0), ((2,), 0), ((0, 2), 3)],
                      [((0,), 0), ((1,), 0), ((2,), 3)]):
            for degree in range(4):
                for first, second in ((one, other), (other, one)):
                    with self.assertRaises(InvalidGrowth):
                        weave_heights(Growth(first), Growth(second), degree, base=2)


if __name__ == "__main__":
    unittest.main()
