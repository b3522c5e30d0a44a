"""Points [14] to [16]: strands and frames, and alike rows with their papers."""

import random
import unittest

from barswoven.bars import bars, row_of_bars
from barswoven.frames import alike, frame, is_alike, is_frame
from barswoven.matrix import Matrix
from barswoven.row import Row

from drawn import BASES, any_bars, any_matrix, any_row, by_hand, is_alive, moved, rank_by_rows, rank_of_vectors


def drawn_rows(seed, times):
    chance = random.Random(seed)
    for base in BASES:
        yield Row(base, [0], [])
        yield Row(base, [3], [])
        yield Row(base, [0, 0], [Matrix.zero(base, 0, 0)])
        for _ in range(times):
            yield any_row(chance, base, chance.randrange(6), 4)
            last = chance.randrange(1, 6)
            yield moved(chance, row_of_bars(base, last, any_bars(chance, last, chance.randrange(1, 6))))[0]


def judge(row, strands):
    """The rules of point [14], one after the other."""
    found = [bar for bar, _ in strands]
    if found != sorted(found, key=by_hand):
        return False
    for (birth, death), vectors in strands:
        if birth < 0 or birth > row.last or death is not None and (death <= birth or death > row.last):
            return False
        end = row.last if death is None else death - 1
        if len(vectors) != end - birth + 1:
            return False
        for at, vector in enumerate(vectors):
            if len(vector) != row.dims[birth + at] or any(entry not in range(row.base) for entry in vector):
                return False
        for at, vector in enumerate(vectors):
            behind = birth + at + 1
            if behind <= row.last:
                told = vectors[at + 1] if at + 1 < len(vectors) else (0,) * row.dims[behind]
                if row.steps[behind - 1].apply(vector) != told:
                    return False
    for time in range(row.last + 1):
        living = [vectors[time - bar[0]] for bar, vectors in strands if is_alive(bar, time)]
        if len(living) != row.dims[time] or rank_of_vectors(living, row.base) != len(living):
            return False
    return True


def other_entry(vectors, at, place, entry):
    vector = vectors[at]
    changed = vector[:place] + (entry,) + vector[place + 1:]
    return vectors[:at] + (changed,) + vectors[at + 1:]


def spoilt_vectors(row, bar, vectors):
    """The vectors with one thing spoilt: each entry, each vector, and their number."""
    for at, vector in enumerate(vectors):
        for place, entry in enumerate(vector):
            for other in {entry - row.base, entry + row.base, -1, row.base, 10 ** 19, -(10 ** 19)}:
                yield other_entry(vectors, at, place, other)
            if bar[1] is None and len(vectors) == 1:
                # Another vector may do as well here; judged elsewhere.
                continue
            yield other_entry(vectors, at, place, (entry + 1) % row.base)
        yield vectors[:at] + vectors[at + 1:]
        yield vectors[:at] + (vector,) + vectors[at:]
        yield vectors[:at] + (vector + (0,),) + vectors[at + 1:]
        if vector:
            yield vectors[:at] + (vector[:-1],) + vectors[at + 1:]
        yield vectors[:at] + ((0,) * len(vector),) + vectors[at + 1:]
    yield ()
    yield vectors + ((0,) * row.dims[-1],)


def spoilt_bars(row, bar):
    birth, death = bar
    for other in (birth - 1, birth + 1, -1, row.last + 1, 10 ** 19, -(10 ** 19)):
        yield (other, death)
    for other in (None, birth, birth - 1, -1, row.last, row.last + 1, 10 ** 19, -(10 ** 19)):
        if other != death:
            yield (birth, other)
    if death is not None:
        yield (birth, death + 1)
        yield (birth, death - 1)


def spoilt(row, strands):
    """The strands with one thing spoilt in ways of which each may or may not leave a frame."""
    for at, (bar, vectors) in enumerate(strands):
        for changed in spoilt_vectors(row, bar, vectors):
            yield strands[:at] + ((bar, changed),) + strands[at + 1:]
        for changed in spoilt_bars(row, bar):
            yield strands[:at] + ((changed, vectors),) + strands[at + 1:]
        yield strands[:at] + strands[at + 1:]
        yield strands[:at] + (strands[at],) + strands[at:]
        yield strands[at:] + strands[:at]
        for time in range(row.last + 1):
            # A strand that lives at no time.
            yield strands[:at] + (((time, time), ()),) + strands[at:]
    yield strands[::-1]
    yield ()
    yield strands + (((row.last + 1, None), ()),)
    yield strands + (((row.last, row.last), ()),)
    yield strands + (((-1, 0), ()),)
    yield (((-1, 0), ()),) + strands
    yield (((-5, -5), ()),) + strands


class FrameTest(unittest.TestCase):
    def test_drawn_rows(self):
        for row in drawn_rows(14, 12):
            found = frame(row)
            self.assertIs(type(found), tuple)
            self.assertTrue(judge(row, found))
            self.assertIs(is_frame(row, found), True)
            self.assertEqual([bar for bar, _ in found], bars(row))
            self.assertEqual(frame(row), found)

    def test_kinds_of_values(self):
        for bar, vectors in frame(row_of_bars(5, 3, [(0, 2), (1, None)])):
            self.assertIs(type(bar), tuple)
            self.assertIs(type(vectors), tuple)
            self.assertTrue(all(type(vector) is tuple for vector in vectors))

    def test_told_frames(self):
        self.assertEqual(frame(Row(5, [0], [])), ())
        self.assertEqual(frame(Row(5, [0, 0], [Matrix.zero(5, 0, 0)])), ())
        row = Row(2, [1, 1], [Matrix.identity(2, 1)])
        self.assertEqual(frame(row), (((0, None), ((1,), (1,))),))

    def test_the_younger_dies_less_the_elder(self):
        # Both vectors at time 1 go to the same one: it is their difference that dies.
        row = Row(7, [1, 2, 1], [Matrix(7, 1, [[1], [0]]), Matrix(7, 2, [[1, 1]])])
        found = frame(row)
        self.assertEqual([bar for bar, _ in found], [(0, None), (1, 2)])
        self.assertTrue(judge(row, found))

    def test_of_rows_moved_in_time(self):
        for row in drawn_rows(24, 3):
            for other in (row.prolonged(row.last + 2), row.later(2), row.earlier(1), row.plus(row)):
                self.assertTrue(judge(other, frame(other)))


class IsFrameTest(unittest.TestCase):
    def test_one_thing_spoilt(self):
        seen = {True: 0, False: 0}
        for row in drawn_rows(34, 4):
            right = frame(row)
            for strands in spoilt(row, right):
                told = judge(row, strands)
                seen[told] += 1
                self.assertIs(is_frame(row, strands), told, (row.dims, strands))
        self.assertGreater(seen[False], 5000)
        self.assertGreater(seen[True], 50)

    def test_told_strands(self):
        row = Row(5, [2, 1], [Matrix(5, 2, [[1, 2]])])
        dying, lasting = ((0, 1), ((3, 1),)), ((0, None), ((1, 0), (1,)))
        self.assertIs(is_frame(row, (dying, lasting)), True)
        self.assertIs(is_frame(row, (((0, 1), ((1, 2),)), lasting)), True)
        self.assertIs(is_frame(row, (dying, ((0, None), ((0, 1), (2,))))), True)
        for strands in (
            (lasting, dying), (lasting,), (dying,), (dying, dying, lasting), (dying, lasting, lasting), (),
            (((0, 1), ((1, 1),)), lasting), (((0, 1), ((0, 0),)), lasting), (dying, ((0, None), ((1, 0), (2,)))),
            (dying, ((0, None), ((1, 0),))), (dying, ((0, None), ((1, 0), (1,), (1,)))), (dying, ((0, None), ())),
            (dying, ((0, 1), ((1, 0),))), (dying, ((0, 2), ((1, 0), (1,)))), (((0, 1), ()), lasting),
            (dying, ((0, None), ((1,), (1,)))), (((0, 1), ((3, 1, 0),)), lasting), (((0, 1), ((-2, 1),)), lasting),
            (((0, 1), ((3, 6),)), lasting), (dying, ((0, None), ((6, 0), (1,)))), (dying, ((0, None), ((1, 0), (6,)))),
            (dying, lasting, ((1, 1), ())), (dying, lasting, ((2, None), ())), (((-1, 0), ((),)), dying, lasting),
            (((-1, 1), ((), (3, 1))), lasting), (dying, ((-1, None), ((), (1, 0), (1,)))),
        ):
            self.assertIs(is_frame(row, strands), False, strands)

    def test_equal_bars_in_any_order(self):
        row = row_of_bars(5, 2, [(0, 2), (0, 2), (1, None)])
        one, two, three = frame(row)
        self.assertIs(is_frame(row, (one, two, three)), True)
        self.assertIs(is_frame(row, (two, one, three)), True)
        self.assertIs(is_frame(row, (one, three, two)), False)
        self.assertIs(is_frame(row, (three, one, two)), False)

    def test_no_strands(self):
        self.assertIs(is_frame(Row(5, [0], []), ()), True)
        self.assertIs(is_frame(Row(5, [1], []), ()), False)
        self.assertIs(is_frame(Row(5, [0, 1], [Matrix.zero(5, 1, 0)]), ()), False)

    def test_frames_of_other_rows(self):
        row = row_of_bars(5, 3, [(0, 2), (1, None)])
        self.assertIs(is_frame(row, frame(row.prolonged(4))), False)
        self.assertIs(is_frame(row.prolonged(4), frame(row)), False)
        self.assertIs(is_frame(Row(7, [1], []), (((0, None), ((6,),)),)), True)
        self.assertIs(is_frame(Row(5, [1], []), (((0, None), ((6,),)),)), False)

    def test_the_strands_stay(self):
        row = row_of_bars(5, 3, [(0, 2), (1, None)])
        found = frame(row)
        self.assertEqual([is_frame(row, found) for _ in range(2)], [True, True])
        self.assertEqual(found, frame(row))


class AlikeTest(unittest.TestCase):
    def judged(self, first, second):
        """The paper of two rows, after the rules of point [16]."""
        paper = alike(first, second)
        self.assertIs(type(paper), tuple)
        last = max(first.last, second.last)
        if paper[0] == "alike":
            _, there, back = paper
            self.assertEqual([type(there), type(back)], [tuple, tuple])
            self.assertEqual((len(there), len(back)), (last + 1, last + 1))
            for t in range(last + 1):
                self.assertEqual((there[t].height, there[t].width), (second.dim(t), first.dim(t)))
                self.assertEqual(there[t] * back[t], Matrix.identity(first.base, second.dim(t)))
                self.assertEqual(back[t] * there[t], Matrix.identity(first.base, first.dim(t)))
            for t in range(last):
                self.assertEqual(there[t + 1] * first.step(t), second.step(t) * there[t])
        else:
            word, start, end = paper
            self.assertEqual(word, "unlike")
            self.assertTrue(0 <= start <= end)
            self.assertNotEqual(rank_by_rows(first.carry(start, end)), rank_by_rows(second.carry(start, end)))
        self.assertIs(is_alike(first, second, paper), True)
        self.assertEqual(alike(first, second), paper)
        return paper[0]

    def test_equal_bars(self):
        chance = random.Random(16)
        for base in BASES:
            for _ in range(12):
                last = chance.randrange(6)
                told = any_bars(chance, last, chance.randrange(6))
                one, _ = moved(chance, row_of_bars(base, last, told))
                chance.shuffle(told)
                other, _ = moved(chance, row_of_bars(base, last + chance.randrange(3), told))
                self.assertEqual(self.judged(one, other), "alike")
                self.assertEqual(self.judged(other, one), "alike")

    def test_unlike_bars(self):
        chance = random.Random(26)
        seen = []
        for base in BASES:
            for _ in range(40):
                one = any_row(chance, base, chance.randrange(5), 3)
                other = any_row(chance, base, chance.randrange(5), 3)
                told = "alike" if bars(one) == bars(other) else "unlike"
                self.assertEqual(self.judged(one, other), told)
                seen.append(told)
        self.assertGreater(seen.count("unlike"), 100)

    def test_one_bar_changed(self):
        chance = random.Random(36)
        for _ in range(60):
            told = any_bars(chance, 6, 5)
            other = list(told)
            place = chance.randrange(len(told))
            other[place] = any_bars(chance, 6, 1)[0]
            if chance.randrange(3) == 0:
                other.pop(place)
            one, _ = moved(chance, row_of_bars(3, 6, told))
            two, _ = moved(chance, row_of_bars(3, 6, other))
            equal = sorted(told, key=by_hand) == sorted(other, key=by_hand)
            self.assertEqual(self.judged(one, two), "alike" if equal else "unlike")
            self.assertEqual(self.judged(two, one), "alike" if equal else "unlike")

    def test_equal_dimensions_but_unlike_steps(self):
        one = row_of_bars(5, 2, [(0, None), (0, 1), (1, None)])
        other = row_of_bars(5, 2, [(0, None), (0, None)])
        self.assertEqual(one.dims, other.dims)
        self.assertEqual(alike(one, other), ("unlike", 0, 1))

    def test_different_last_times(self):
        for row in drawn_rows(46, 4):
            for more in range(3):
                self.assertEqual(self.judged(row, row.prolonged(row.last + more)), "alike")
                self.assertEqual(self.judged(row.prolonged(row.last + more), row), "alike")

    def test_one_time(self):
        self.assertEqual(self.judged(Row(5, [2], []), Row(5, [2], [])), "alike")
        self.assertEqual(alike(Row(5, [2], []), Row(5, [1], [])), ("unlike", 0, 0))


class IsAlikeTest(unittest.TestCase):
    def setUp(self):
        chance = random.Random(56)
        told = [(0, 2), (0, None), (1, 3), (1, None), (2, None)]
        self.one, _ = moved(chance, row_of_bars(5, 3, told))
        self.other, _ = moved(chance, row_of_bars(5, 4, told))
        self.paper = alike(self.one, self.other)

    def refused(self, there, back):
        self.assertIs(is_alike(self.one, self.other, ("alike", there, back)), False)

    def test_each_entry_changed(self):
        _, there, back = self.paper
        self.assertIs(is_alike(self.one, self.other, self.paper), True)
        for side, parts in enumerate((there, back)):
            for t, part in enumerate(parts):
                for at in range(part.height):
                    for place in range(part.width):
                        rows = [list(row) for row in part.rows]
                        rows[at][place] = (rows[at][place] + 1) % 5
                        changed = parts[:t] + (Matrix(5, part.width, rows),) + parts[t + 1:]
                        self.refused(*((changed, back) if side == 0 else (there, changed)))

    def test_inverse_pairs_that_do_not_fit_the_steps(self):
        _, there, back = self.paper
        for t in range(len(there)):
            self.refused(there[:t] + (there[t].scaled(2),) + there[t + 1:], back)
            self.refused(there, back[:t] + (back[t].scaled(3),) + back[t + 1:])
            both = there[:t] + (there[t].scaled(2),) + there[t + 1:], back[:t] + (back[t].scaled(3),) + back[t + 1:]
            self.refused(*both)
        doubled = tuple(part.scaled(2) for part in there), tuple(part.scaled(3) for part in back)
        self.assertIs(is_alike(self.one, self.other, ("alike", *doubled)), True)

    def test_matrices_left_out_or_doubled(self):
        _, there, back = self.paper
        for t in range(len(there)):
            self.refused(there[:t] + there[t + 1:], back)
            self.refused(there, back[:t] + back[t + 1:])
            self.refused(there[:t] + there[t + 1:], back[:t] + back[t + 1:])
            self.refused(there[:t] + there[t:t + 1] + there[t:], back)
            self.refused(there, back[:t] + back[t:t + 1] + back[t:])
        self.refused(there + there[-1:], back + back[-1:])
        self.refused((), ())

    def test_another_size_or_base(self):
        _, there, back = self.paper
        for t, part in enumerate(there):
            size = part.width
            for other in (
                Matrix.zero(5, size, size + 1), Matrix.zero(5, size + 1, size), Matrix.zero(5, 0, size),
                Matrix.zero(5, size, 0), Matrix.identity(5, size + 1), Matrix.identity(7, size), Matrix.zero(5, 0, 0),
            ):
                self.refused(there[:t] + (other,) + there[t + 1:], back)
                self.refused(there, back[:t] + (other,) + back[t + 1:])
                self.refused(there[:t] + (other,) + there[t + 1:], back[:t] + (other,) + back[t + 1:])
        sevens = tuple(Matrix.identity(7, self.one.dim(t)) for t in range(len(there)))
        self.refused(sevens, sevens)

    def test_there_and_back_exchanged(self):
        _, there, back = self.paper
        self.refused(back, there)
        self.assertIs(is_alike(self.other, self.one, ("alike", back, there)), True)

    def test_spaces_of_different_dimensions(self):
        one, other = Row(5, [1], []), Row(5, [2], [])
        for there, back in (
            (Matrix.zero(5, 2, 1), Matrix.zero(5, 1, 2)), (Matrix.identity(5, 1), Matrix.identity(5, 1)),
            (Matrix(5, 1, [[1], [0]]), Matrix(5, 2, [[1, 0]])), (Matrix.identity(5, 2), Matrix.identity(5, 2)),
        ):
            self.assertIs(is_alike(one, other, ("alike", (there,), (back,))), False)
            self.assertIs(is_alike(other, one, ("alike", (back,), (there,))), False)

    def test_empty_spaces(self):
        row = Row(5, [0], [])
        none = Matrix.zero(5, 0, 0)
        self.assertIs(is_alike(row, row, ("alike", (none,), (none,))), True)
        self.assertIs(is_alike(row, row, ("alike", (), ())), False)
        self.assertIs(is_alike(row, row, ("alike", (Matrix.zero(7, 0, 0),), (none,))), False)

    def test_times_of_unlike_rows(self):
        chance = random.Random(66)
        one, _ = moved(chance, row_of_bars(5, 4, [(0, 2), (1, None), (3, None)]))
        other, _ = moved(chance, row_of_bars(5, 3, [(0, 3), (1, None)]))
        for start in range(-3, 9):
            for end in range(-3, 9):
                told = 0 <= start <= end and (
                    rank_by_rows(one.carry(start, end)) != rank_by_rows(other.carry(start, end))
                )
                self.assertIs(is_alike(one, other, ("unlike", start, end)), told)
        self.assertIs(is_alike(one, other, ("unlike", 3, 1000)), True)
        self.assertIs(is_alike(one, other, ("unlike", 1000, 1000)), True)
        for start, end in ((1000, 3), (-1000, 1000), (-1000, -1000), (1000, -1000), (-1, 5), (3, 2)):
            self.assertIs(is_alike(one, other, ("unlike", start, end)), False)

    def test_alike_rows_are_unlike_at_no_time(self):
        for start in range(-2, 7):
            for end in range(-2, 7):
                self.assertIs(is_alike(self.one, self.other, ("unlike", start, end)), False)

    def test_greatest_rows(self):
        chance = random.Random(76)
        steps = [any_matrix(chance, 97, 40, 38) * any_matrix(chance, 97, 38, 40) for _ in range(40)]
        one = Row(97, [40] * 41, steps)
        other = row_of_bars(97, 40, bars(one))
        paper = alike(one, other)
        self.assertEqual(paper[0], "alike")
        self.assertIs(is_alike(one, other, paper), True)
        self.assertIs(is_alike(other, one, paper), False)


if __name__ == "__main__":
    unittest.main()
