"""Point [29]: rows, bars and frames read backwards."""

import random
import unittest

from barswoven.backwards import turned_bars, turned_row, turned_strands
from barswoven.bars import bars, row_of_bars
from barswoven.frames import frame, is_frame
from barswoven.matrix import Matrix
from barswoven.row import Row

from drawn import BASES, any_bars, any_row, by_hand, moved, rank_of_vectors


def drawn_rows(seed, times):
    """Drawn rows, also prolonged ones, rows of bars behind changes of base, and rows with dimensions 0."""
    chance = random.Random(seed)
    for base in BASES:
        yield chance, Row(base, [0], [])
        yield chance, Row(base, [3], [])
        yield chance, Row(base, [0, 0, 0], [Matrix.zero(base, 0, 0)] * 2)
        for _ in range(times):
            row = any_row(chance, base, chance.randrange(6), 4)
            yield chance, row
            yield chance, row.prolonged(row.last + chance.randrange(1, 4))
            yield chance, row.later(chance.randrange(1, 3))
            last = chance.randrange(1, 8)
            yield chance, moved(chance, row_of_bars(base, last, any_bars(chance, last, chance.randrange(1, 6))))[0]


def mixed(chance, row, strands):
    """The frame with multiples of strands added to others that are born no earlier and die no earlier."""
    strands = list(strands)
    for _ in range(3 * len(strands)):
        one, other = chance.randrange(len(strands)), chance.randrange(len(strands))
        (bar, vectors), (elder, others) = strands[one], strands[other]
        if one != other and elder[0] <= bar[0] and by_hand((0, elder[1])) <= by_hand((0, bar[1])):
            factor = chance.randrange(row.base)
            changed = []
            for at, vector in enumerate(vectors):
                place = bar[0] + at - elder[0]
                beside = others[place] if place < len(others) else (0,) * len(vector)
                changed.append(tuple((a + factor * b) % row.base for a, b in zip(vector, beside)))
            strands[one] = (bar, tuple(changed))
    return tuple(strands)


def judge_frame(row, strands):
    """The rules of a frame, after point [14]."""
    told = [bar for bar, _ in strands]
    if told != sorted(told, key=by_hand):
        return False
    for (birth, death), vectors in strands:
        end = row.last + 1 if death is None else death
        if not 0 <= birth <= row.last or not birth < end <= row.last + (death is None):
            return False
        if len(vectors) != end - birth or any(len(v) != row.dims[birth + at] for at, v in enumerate(vectors)):
            return False
        for at, vector in enumerate(vectors):
            if any(entry not in range(row.base) for entry in vector):
                return False
            if birth + at < row.last:
                image = tuple(
                    sum(a * b for a, b in zip(line, vector)) % row.base for line in row.steps[birth + at].rows
                )
                if image != (vectors[at + 1] if at + 1 < len(vectors) else (0,) * len(image)):
                    return False
    for time in range(row.last + 1):
        there = [
            vectors[time - birth] for (birth, death), vectors in strands
            if birth <= time and (death is None or time < death)
        ]
        if len(there) != row.dims[time] or rank_of_vectors(there, row.base) != row.dims[time]:
            return False
    return True


class TurnedRowTest(unittest.TestCase):
    def test_at_each_time(self):
        for _, row in drawn_rows(29, 6):
            turned = turned_row(row)
            self.assertIs(type(turned), Row)
            self.assertEqual((turned.base, turned.last), (row.base, row.last))
            for time in range(row.last + 1):
                self.assertEqual(turned.dim(time), row.dim(row.last - time))
            for time in range(row.last):
                step, given = turned.step(time), row.step(row.last - 1 - time)
                self.assertEqual((step.height, step.width), (given.width, given.height))
                for at in range(step.height):
                    for place in range(step.width):
                        self.assertEqual(step.rows[at][place], given.rows[place][at])

    def test_twice(self):
        for _, row in drawn_rows(39, 6):
            self.assertEqual(turned_row(turned_row(row)), row)

    def test_told_row(self):
        row = Row(5, [2, 1, 0], [Matrix(5, 2, [[1, 2]]), Matrix.zero(5, 0, 1)])
        self.assertEqual(
            turned_row(row), Row(5, [0, 1, 2], [Matrix.zero(5, 1, 0), Matrix(5, 1, [[1], [2]])]),
        )


class TurnedBarsTest(unittest.TestCase):
    def test_told_bars(self):
        given = [(2, None), (0, 4), (0, None), (4, None), (1, 2), (1, 4), (1, 2), (0, 1), (3, 4)]
        told = [(0, 1), (0, 3), (0, None), (1, 2), (1, 4), (1, None), (3, 4), (3, 4), (4, None)]
        self.assertEqual(turned_bars(given, 4), told)
        self.assertEqual(turned_bars(tuple(given), 4), told)
        self.assertEqual(turned_bars([], 4), [])
        self.assertEqual(turned_bars([(0, None)], 0), [(0, None)])
        self.assertEqual(turned_bars([(40, None), (0, 40)], 40), [(0, 1), (1, None)])

    def test_unsorted_lists(self):
        chance = random.Random(49)
        for _ in range(300):
            last = chance.randrange(1, 9)
            given = any_bars(chance, last, chance.randrange(1, 9))
            kept = list(given)
            found = turned_bars(given, last)
            told = [
                (0 if death is None else last + 1 - death, None if birth == 0 else last + 1 - birth)
                for birth, death in given
            ]
            self.assertEqual(found, sorted(told, key=by_hand))
            self.assertEqual(given, kept)
            self.assertEqual(turned_bars(found, last), sorted(given, key=by_hand))
            found.append((0, 1))
            self.assertEqual(len(turned_bars(given, last)), len(given))

    def test_alive_backwards(self):
        for birth in range(6):
            for death in [None, *range(birth + 1, 6)]:
                (found,) = turned_bars([(birth, death)], 5)
                for time in range(6):
                    alive = birth <= time and (death is None or time < death)
                    there = found[0] <= 5 - time and (found[1] is None or 5 - time < found[1])
                    self.assertIs(there, alive)

    def test_bars_of_the_turned_row(self):
        for _, row in drawn_rows(59, 6):
            self.assertEqual(bars(turned_row(row)), turned_bars(bars(row), row.last))


class TurnedStrandsTest(unittest.TestCase):
    def judged(self, row, strands):
        found = turned_strands(row, strands)
        self.assertIs(type(found), tuple)
        for strand in found:
            self.assertEqual([type(part) for part in strand], [tuple, tuple])
        turned = turned_row(row)
        self.assertTrue(judge_frame(turned, found))
        self.assertIs(is_frame(turned, found), True)
        self.assertEqual([bar for bar, _ in found], turned_bars([bar for bar, _ in strands], row.last))
        self.assertEqual(turned_strands(row, strands), found)
        return found

    def test_frames(self):
        for _, row in drawn_rows(69, 6):
            self.judged(row, frame(row))

    def test_multiples_of_elder_strands(self):
        changed = 0
        for chance, row in drawn_rows(79, 8):
            strands = mixed(chance, row, frame(row))
            self.assertTrue(judge_frame(row, strands))
            changed += strands != frame(row)
            self.judged(turned_row(row), self.judged(row, strands))
        self.assertGreater(changed, 30)

    def test_a_told_frame(self):
        row = Row(5, [2, 1], [Matrix(5, 2, [[1, 2]])])
        strands = (((0, 1), ((3, 1),)), ((0, None), ((1, 0), (1,))))
        self.assertTrue(judge_frame(row, strands))
        # The forms that are 1 at a strand and 0 at the other one.
        self.assertEqual(self.judged(row, strands), (((0, None), ((1,), (1, 2))), ((1, None), ((0, 1),))))


if __name__ == "__main__":
    unittest.main()
