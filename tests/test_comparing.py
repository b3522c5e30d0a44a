"""Point [27]: comparing two rows, and the papers that tell of it."""

import random
import time
import unittest

from barswoven.bars import bars, row_of_bars
from barswoven.comparing import accepts, compare
from barswoven.errors import InvalidRow
from barswoven.lagmap import LagMap
from barswoven.matrix import Matrix
from barswoven.pairing import least_pairing
from barswoven.row import Row
from barswoven.weaving import Weaving

from drawn import (
    BASES, any_bars, any_matrix, any_row, judge_apart, judge_lot, judge_pairing, placed, shaken,
)

FAR = (-1, -2, -(10 ** 19), 10 ** 19)


def drawn_rows(seed, times):
    """Rows of moved bars, of drawn steps, and of unlike bars, with different last times."""
    chance = random.Random(seed)
    for base in BASES:
        for _ in range(times):
            last = chance.randrange(1, 7)
            told = any_bars(chance, last, chance.randrange(1, 5))
            near, _ = shaken(chance, told, last, chance.randrange(4))
            first, _, _ = placed(chance, base, last + chance.randrange(3), told)
            yield first, placed(chance, base, last + chance.randrange(3), near)[0]
            yield first, any_row(chance, base, chance.randrange(5), 3)
            yield any_row(chance, base, chance.randrange(5), 3), any_row(chance, base, chance.randrange(5), 3)


def judge(first, second, paper):
    """The rules of point [27] for a paper."""
    ours, theirs = bars(first), bars(second)
    if paper[0] == "apart":
        return judge_apart(ours, theirs, *paper[1:])
    _, weaving, pairs, lonely = paper
    if weaving.first != first or weaving.second != second:
        return False
    if not judge_pairing(ours, theirs, pairs, weaving.lag):
        return False
    if lonely is None:
        return weaving.lag == 0
    return weaving.lag > 0 and judge_lot(ours, theirs, *lonely[1:], weaving.lag - 1)


class CompareTest(unittest.TestCase):
    def judged(self, first, second):
        paper = compare(first, second)
        self.assertIs(type(paper), tuple)
        told = least_pairing(bars(first), bars(second))
        if paper[0] == "woven":
            _, weaving, pairs, lonely = paper
            self.assertEqual(told[0], "within")
            self.assertEqual(weaving.lag, told[1])
            self.assertIs(type(pairs), tuple)
            self.check_weaving(first, second, weaving)
            if lonely is not None:
                self.assertEqual(lonely[0], "lonely")
                self.assertIs(type(lonely[2]), tuple)
        else:
            self.assertEqual((paper[0], told[0]), ("apart", "apart"))
            self.assertIs(type(paper[2]), tuple)
        self.assertTrue(judge(first, second, paper))
        self.assertIs(accepts(first, second, paper), True)
        self.assertEqual(compare(first, second), paper)
        return paper

    def check_weaving(self, first, second, weaving):
        lag = weaving.lag
        self.assertEqual((weaving.first, weaving.second), (first, second))
        for t in range(max(first.last, second.last) + 2):
            there, back = weaving.forth.part(t), weaving.back.part(t)
            self.assertEqual(weaving.back.part(t + lag) * there, first.carry(t, t + 2 * lag))
            self.assertEqual(weaving.forth.part(t + lag) * back, second.carry(t, t + 2 * lag))

    def test_drawn_rows(self):
        seen = []
        for first, second in drawn_rows(27, 15):
            paper = self.judged(first, second)
            again = self.judged(second, first)
            self.assertEqual(paper[0], again[0])
            if paper[0] == "woven":
                self.assertEqual(paper[1].lag, again[1].lag)
            seen.append(("woven", paper[1].lag) if paper[0] == "woven" else paper[:2])
        for told in (("woven", 0), ("woven", 1), ("woven", 2), ("apart", "first"), ("apart", "second")):
            self.assertGreater(seen.count(told), 3, told)

    def test_a_row_with_itself(self):
        for first, _ in drawn_rows(37, 3):
            word, weaving, pairs, lonely = self.judged(first, first)
            self.assertEqual((word, weaving.lag, lonely), ("woven", 0, None))
            self.assertEqual(len(pairs), len(bars(first)))
            self.assertEqual(self.judged(first, first.prolonged(first.last + 2))[1].lag, 0)

    def test_told_lags(self):
        for told, other, lag in (
            ([], [], 0), ([(0, 6)], [], 3), ([(0, 5)], [], 3), ([(1, None)], [(5, None)], 4),
            ([(0, 8)], [(2, 7)], 2), ([(0, 8), (3, None)], [(3, None)], 4), ([(0, 40)], [(1, 40)], 1),
        ):
            first, second = row_of_bars(5, 40, told), row_of_bars(5, 40, other)
            self.assertEqual(self.judged(first, second)[1].lag, lag)
            self.assertEqual(self.judged(second, first)[1].lag, lag)

    def test_later_rows(self):
        chance = random.Random(47)
        for base in BASES:
            row = any_row(chance, base, 4, 3)
            for lag in range(3):
                self.assertLessEqual(self.judged(row, row.later(lag))[1].lag, lag)

    def test_apart(self):
        first, second = row_of_bars(5, 3, [(0, None), (1, 2), (2, None)]), row_of_bars(5, 3, [(0, None), (0, 3)])
        self.assertEqual(self.judged(first, second), ("apart", "first", (0, 2)))
        self.assertEqual(self.judged(second, first), ("apart", "second", (0, 2)))

    def test_other_bases(self):
        for told in ([], [(0, None)]):
            with self.assertRaises(InvalidRow):
                compare(row_of_bars(5, 2, told), row_of_bars(7, 2, told))
        with self.assertRaises(InvalidRow):
            compare(row_of_bars(5, 2, [(0, None)]), row_of_bars(7, 2, []))

    def test_greatest_rows(self):
        chance = random.Random(57)
        start = time.monotonic()
        first, second = (
            Row(97, [40] * 41, [any_matrix(chance, 97, 40, 38) * any_matrix(chance, 97, 38, 40) for _ in range(40)])
            for _ in range(2)
        )
        paper = compare(first, second)
        self.assertIs(accepts(first, second, paper), True)
        self.assertEqual(paper[1].lag, least_pairing(bars(first), bars(second))[1])
        self.assertLess(time.monotonic() - start, 60)


class AcceptsTest(unittest.TestCase):
    def judged(self, first, second, paper):
        told = judge(first, second, paper)
        self.assertIs(accepts(first, second, paper), told, paper)
        self.seen[told] += 1

    def setUp(self):
        self.seen = {True: 0, False: 0}

    def test_one_thing_spoilt(self):
        for first, second in drawn_rows(67, 6):
            paper = compare(first, second)
            for changed in spoilt_paper(first, second, paper):
                self.judged(first, second, changed)
        self.assertGreater(self.seen[False], 2000)
        self.assertGreater(self.seen[True], 100)

    def test_weavings_of_other_rows(self):
        for first, second in drawn_rows(77, 5):
            paper = compare(first, second)
            if paper[0] == "woven":
                longer = first.prolonged(first.last + 1), second.prolonged(second.last + 1)
                for rows in ((longer[0], second), (first, longer[1]), longer, (second, first)):
                    self.judged(*rows, paper)
                    self.judged(first, second, compare(*rows))
        self.assertGreater(self.seen[False], 50)

    def test_weavings_over_another_base(self):
        first, second = row_of_bars(5, 2, [(0, 2)]), row_of_bars(5, 2, [(0, 2)])
        paper = compare(row_of_bars(7, 2, [(0, 2)]), row_of_bars(7, 2, [(0, 2)]))
        self.assertIs(accepts(first, second, paper), False)
        # The same with rows of no vectors at all.
        none, other = row_of_bars(5, 1, []), row_of_bars(7, 1, [])
        self.assertIs(accepts(none, none, compare(other, other)), False)
        self.assertIs(accepts(none, none, compare(none, none)), True)

    def test_lists_instead_of_tuples(self):
        for first, second in drawn_rows(87, 4):
            paper = compare(first, second)
            if paper[0] == "woven":
                word, weaving, pairs, lonely = paper
                if lonely is not None:
                    lonely = (*lonely[:2], list(lonely[2]))
                self.assertIs(accepts(first, second, (word, weaving, list(pairs), lonely)), True)
            else:
                self.assertIs(accepts(first, second, (*paper[:2], list(paper[2]))), True)

    def test_any_weaving_and_pairing_with_the_least_lag(self):
        # The maps may mix the strands, and the pairs need not be those of the maps.
        row = row_of_bars(5, 2, [(0, None), (0, None)])
        there = LagMap(row, row, 0, [Matrix(5, 2, [[1, 1], [0, 1]])] * 3)
        back = LagMap(row, row, 0, [Matrix(5, 2, [[1, 4], [0, 1]])] * 3)
        for pairs in (((0, 0), (1, 1)), ((0, 1), (1, 0))):
            self.assertIs(accepts(row, row, ("woven", Weaving(there, back), pairs, None)), True)
        self.assertIs(accepts(row, row, ("woven", Weaving(there, back), ((0, 1),), None)), False)

    def test_a_lot_for_another_lag(self):
        first, second = row_of_bars(5, 9, [(0, 9)]), row_of_bars(5, 9, [])
        paper = compare(first, second)
        self.assertEqual((paper[1].lag, paper[3]), (5, ("lonely", "first", (0,))))
        self.assertIs(accepts(first, second, paper), True)
        slow = ("woven", paper[1].slowed(6), (), ("lonely", "first", (0,)))
        self.assertIs(accepts(first, second, slow), False)

    def test_the_paper_stays(self):
        first, second = row_of_bars(5, 9, [(0, 9)]), row_of_bars(5, 9, [])
        word, weaving, _, _ = compare(first, second)
        pairs, places = [], [0]
        self.assertIs(accepts(first, second, (word, weaving, pairs, ("lonely", "first", places))), True)
        self.assertEqual((pairs, places), ([], [0]))


def spoilt_paper(first, second, paper):
    yield paper
    for side in ("first", "second"):
        yield ("apart", side, ())
        lasting = tuple(at for at, bar in enumerate(bars(first if side == "first" else second)) if bar[1] is None)
        for places in spoilt_places(lasting):
            yield ("apart", side, places)
    if paper[0] == "apart":
        return
    _, weaving, pairs, lonely = paper
    yield ("woven", weaving.slowed(weaving.lag + 1), pairs, lonely)
    yield ("woven", weaving.slowed(weaving.lag + 1), pairs, lonely or ("lonely", "first", (0,)))
    yield ("woven", weaving.turned(), pairs, lonely)
    yield ("woven", weaving.turned(), tuple(sorted((other, one) for one, other in pairs)), lonely)
    yield ("woven", Weaving.still(first), pairs, lonely)
    yield ("woven", Weaving.still(second), pairs, lonely)
    for changed in spoilt_pairs(pairs):
        yield ("woven", weaving, changed, lonely)
    yield ("woven", weaving, pairs, None)
    for side in ("first", "second"):
        for places in spoilt_places(() if lonely is None else lonely[2]):
            yield ("woven", weaving, pairs, ("lonely", side, places))


def spoilt_pairs(pairs):
    for at, (one, other) in enumerate(pairs):
        for number in (*FAR, *range(6)):
            yield pairs[:at] + ((number, other),) + pairs[at + 1:]
            yield pairs[:at] + ((one, number),) + pairs[at + 1:]
        yield pairs[:at] + pairs[at + 1:]
        yield pairs[:at] + (pairs[at],) + pairs[at:]
    yield pairs[::-1]
    yield ()


def spoilt_places(places):
    for at in range(len(places)):
        for number in (*FAR, *range(5)):
            yield places[:at] + (number,) + places[at + 1:]
        yield places[:at] + places[at + 1:]
        yield places[:at] + (places[at],) + places[at:]
    for number in (*FAR, *range(5)):
        yield tuple(sorted((*places, number)))
    yield places
    yield places[::-1]
    yield ()


if __name__ == "__main__":
    unittest.main()
