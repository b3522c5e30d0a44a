"""Points [24] to [26]: weavings, those of frames and pairings, and the pairings of weavings."""

import random
import unittest

from barswoven.bars import bars, row_of_bars
from barswoven.errors import InvalidRow, InvalidWeaving, WovenError
from barswoven.frames import frame
from barswoven.lagmap import LagMap
from barswoven.matrix import Matrix
from barswoven.pairing import pair_within
from barswoven.row import Row
from barswoven.solving import inverse
from barswoven.weaving import Weaving, pairs_of, weave

from drawn import (
    BASES, any_bars, any_matrix, any_row, by_hand, change_of_base, factors_of, is_alive, judge_pairing, parts_of,
    placed, shaken,
)


def drawn_frames(seed, times):
    """Two rows behind changes of base with frames and a pairing of their bars: the arguments of weave."""
    chance = random.Random(seed)
    for base in BASES:
        for _ in range(times):
            last, lag = chance.randrange(1, 7), chance.randrange(4)
            told = sorted(any_bars(chance, last, chance.randrange(1, 5)), key=by_hand)
            near, _ = shaken(chance, told, last, lag)
            first, _, _ = placed(chance, base, last + chance.randrange(3), told)
            second, _, _ = placed(chance, base, last + chance.randrange(3), near)
            yield chance, first, second, lag


def drawn_weavings(seed, times):
    for _, first, second, lag in drawn_frames(seed, times):
        yield woven(first, second, lag)


def woven(first, second, lag):
    return weave(first, second, frame(first), frame(second), some_pairing(bars(first), bars(second), lag), lag=lag)


def some_pairing(first, second, lag):
    word, pairs = pair_within(first, second, lag=lag)
    assert word == "paired"
    return pairs


def frame_by_hand(chance, base, last, told):
    """A drawn row with a frame in the order of the told bars, which are sorted."""
    row, changes, _ = placed(chance, base, last, told)
    strands = []
    for place, bar in enumerate(told):
        vectors = []
        for time in range(last + 1):
            if is_alive(bar, time):
                here = [at for at, other in enumerate(told) if is_alive(other, time)].index(place)
                vectors.append(changes[time][0].column(here))
        strands.append((bar, tuple(vectors)))
    return row, tuple(strands)


def vector_of(strand, time):
    bar, vectors = strand
    return vectors[min(time - bar[0], len(vectors) - 1)] if is_alive(bar, time) else None


class FieldTest(unittest.TestCase):
    def test_what_is_kept(self):
        for weaving in drawn_weavings(24, 6):
            found = Weaving(weaving.forth, weaving.back)
            self.assertEqual((found.forth, found.back), (weaving.forth, weaving.back))
            self.assertEqual((found.first, found.second), (weaving.forth.first, weaving.forth.second))
            self.assertEqual(found.lag, weaving.forth.lag)
            self.assertIs(found == weaving, True)
            self.assertIs(found != weaving, False)

    def test_by_keyword(self):
        still = LagMap.carrying(Row(5, [1], []), 0)
        self.assertEqual(Weaving(forth=still, back=still), Weaving(still, still))

    def test_equality(self):
        row = row_of_bars(5, 2, [(0, None), (0, None)])

        def turned_by(rows, back):
            return Weaving(LagMap(row, row, 1, [Matrix(5, 2, rows)] * 3), LagMap(row, row, 1, [Matrix(5, 2, back)] * 3))

        one = turned_by([[1, 0], [0, 1]], [[1, 0], [0, 1]])
        self.assertIs(one == turned_by([[1, 0], [0, 1]], [[1, 0], [0, 1]]), True)
        self.assertIs(one == turned_by([[2, 0], [0, 1]], [[3, 0], [0, 1]]), False)
        self.assertIs(one == Weaving.still(row), False)
        self.assertIs(one == Weaving.still(row.prolonged(3)).slowed(1), False)
        self.assertIs(one == Weaving.still(row).slowed(1), True)

    def test_maps_back_that_differ_alone(self):
        # With a lag that ends all bars, the maps back are free.
        row = row_of_bars(5, 2, [(0, 1)])
        forth = LagMap(row, row, 0, [Matrix.zero(5, size, size) for size in row.dims])
        later = row_of_bars(5, 2, [(0, 2)])
        unit = Matrix.identity(5, 1)
        one = Weaving(LagMap(later, later, 1, [unit, Matrix.zero(5, 0, 1), Matrix.zero(5, 0, 0)]),
                      LagMap(later, later, 1, [Matrix.zero(5, 1, 1), Matrix.zero(5, 0, 1), Matrix.zero(5, 0, 0)]))
        self.assertIs(one == one.turned(), False)
        self.assertIs(one == Weaving(one.back, one.back), False)
        self.assertIs(one == Weaving(one.forth, one.forth), False)
        self.assertIs(one == Weaving(one.forth, one.back), True)
        self.assertRaises(InvalidWeaving, Weaving, forth, forth)

    def test_objects_of_other_kinds(self):
        row = Row(5, [1], [])
        still = Weaving.still(row)

        class Alike:
            forth = back = LagMap.carrying(row, 0)
            first, second, lag = row, row, 0

        for other in (None, 0, True, "", (), [], {}, row, still.forth, object(), Weaving, Alike()):
            self.assertIs(still == other, False)
            self.assertIs(other == still, False)
            self.assertIs(still != other, True)


class WrongInputTest(unittest.TestCase):
    def refused(self, forth, back):
        with self.assertRaises(InvalidWeaving):
            Weaving(forth, back)

    def test_kind_of_the_error(self):
        row = Row(5, [1], [])
        with self.assertRaises(WovenError):
            Weaving(LagMap.carrying(row, 0), LagMap.carrying(row, 1))

    def test_other_lags(self):
        for weaving in drawn_weavings(34, 4):
            more = LagMap.carrying(weaving.first, 1)
            self.refused(weaving.forth, weaving.back.then(more))
            self.refused(more.then(weaving.forth), weaving.back)
        row = row_of_bars(5, 2, [])
        self.refused(LagMap.carrying(row, 0), LagMap.carrying(row, 1))

    def test_rows_that_do_not_fit(self):
        for weaving in drawn_weavings(44, 4):
            forth, back = weaving.forth, weaving.back
            longer = weaving.first.prolonged(weaving.first.last + 1)
            there, again = LagMap.carrying(longer, weaving.lag), LagMap.carrying(weaving.first, weaving.lag)
            self.refused(forth, there)
            self.refused(there, again)
            if weaving.first != weaving.second:
                self.refused(forth, forth)
                self.refused(back, back)
                self.refused(forth, again)
                self.refused(again, back)
        # All spaces are empty, but the rows are not equal.
        short, long = row_of_bars(5, 0, []), row_of_bars(5, 1, [])
        none = Matrix.zero(5, 0, 0)
        self.refused(LagMap(short, long, 0, [none] * 2), LagMap(short, short, 0, [none]))
        self.refused(LagMap(short, short, 0, [none]), LagMap(long, short, 0, [none] * 2))
        self.refused(LagMap(short, long, 0, [none] * 2), LagMap(long, long, 0, [none] * 2))

    def test_compositions_that_are_not_the_carry(self):
        refused = 0
        for weaving in drawn_weavings(54, 8):
            forth, back = weaving.forth, weaving.back
            for factor in range(weaving.first.base):
                changed = LagMap(forth.first, forth.second, forth.lag, [part.scaled(factor) for part in forth.parts])
                told = (
                    changed.then(back) == LagMap.carrying(weaving.first, 2 * weaving.lag)
                    and back.then(changed) == LagMap.carrying(weaving.second, 2 * weaving.lag)
                )
                if told:
                    self.assertEqual(Weaving(changed, back).forth, changed)
                    self.assertEqual(Weaving(back, changed).back, changed)
                else:
                    refused += 1
                    self.refused(changed, back)
                    self.refused(back, changed)
                if factor > 7:
                    break
        self.assertGreater(refused, 50)

    def test_one_composition_that_is_not_the_carry(self):
        # There is nothing in the first row, so that forth and back are the carry of it, but not of the second one.
        none, one = row_of_bars(5, 2, []), row_of_bars(5, 2, [(0, 2)])
        for lag in range(3):
            heights = [one.dim(time + lag) for time in range(3)]
            forth = LagMap(none, one, lag, [Matrix.zero(5, height, 0) for height in heights])
            back = LagMap(one, none, lag, [Matrix.zero(5, 0, one.dim(time)) for time in range(3)])
            if lag:
                self.assertEqual(Weaving(forth, back).second, one)
                self.assertEqual(Weaving(back, forth).first, one)
            else:
                self.refused(forth, back)
                self.refused(back, forth)


class WeaveTest(unittest.TestCase):
    def test_part_by_part(self):
        chance = random.Random(25)
        for base in BASES:
            for _ in range(12):
                last, lag = chance.randrange(1, 7), chance.randrange(4)
                told = sorted(any_bars(chance, last, chance.randrange(1, 5)), key=by_hand)
                mixed, drawn = shaken(chance, told, last, lag)
                near = sorted(mixed, key=by_hand)
                # Doubles take the places of the sorted list one by one.
                places = {}
                for at, place in enumerate(sorted(range(len(mixed)), key=lambda place: by_hand(mixed[place]))):
                    places[place] = at
                pairs = tuple((one, places[other]) for one, other in drawn)
                self.assertTrue(judge_pairing(told, near, pairs, lag))
                first, ours = frame_by_hand(chance, base, last + chance.randrange(3), told)
                second, theirs = frame_by_hand(chance, base, last + chance.randrange(3), near)
                self.judged(first, second, ours, theirs, pairs, lag)

    def judged(self, first, second, ours, theirs, pairs, lag):
        found = weave(first, second, ours, theirs, pairs, lag=lag)
        self.assertEqual((found.first, found.second, found.lag), (first, second, lag))
        for time in range(max(first.last, second.last) + 3):
            for lagmap, here, there, turned in ((found.forth, ours, theirs, False), (found.back, theirs, ours, True)):
                target_row = first if turned else second
                mates = {(other if turned else one): (one if turned else other) for one, other in pairs}
                for place, strand in enumerate(here):
                    vector = vector_of(strand, time)
                    if vector is not None:
                        told = vector_of(there[mates[place]], time + lag) if place in mates else None
                        if told is None:
                            told = (0,) * target_row.dim(time + lag)
                        self.assertEqual(lagmap.part(time).apply(vector), told)
        self.assertEqual(weave(first, second, ours, theirs, list(pairs), lag=lag), found)

    def test_rows_without_bars(self):
        none = row_of_bars(5, 3, [])
        for other in (none, row_of_bars(5, 1, [(0, 1)]), row_of_bars(5, 5, [(0, 2), (3, 5)])):
            found = weave(none, other, (), frame(other), (), lag=1)
            self.assertTrue(all(part.is_zero for part in found.forth.parts + found.back.parts))
            self.assertEqual(found.turned(), weave(other, none, frame(other), (), [], lag=1))

    def test_refused(self):
        checked = 0
        for _, first, second, lag in drawn_frames(35, 5):
            ours, theirs = frame(first), frame(second)
            pairs = some_pairing(bars(first), bars(second), lag)
            told = [first, second, ours, theirs, pairs]
            self.assertEqual(weave(*told, lag=lag).lag, lag)
            for place, wrong in spoilt(first, second, ours, theirs, pairs, lag):
                changed = told[:place] + [wrong] + told[place + 1:]
                with self.assertRaises(InvalidWeaving):
                    weave(*changed, lag=lag)
                checked += 1
        self.assertGreater(checked, 300)

    def test_other_bases(self):
        for told in ([], [(0, None)]):
            one, other = row_of_bars(5, 2, told), row_of_bars(7, 2, told)
            pairs = tuple((place, place) for place in range(len(told)))
            for first, second in ((one, other), (other, one)):
                with self.assertRaises(InvalidWeaving):
                    weave(first, second, frame(first), frame(second), pairs, lag=0)

    def test_a_pairing_within_another_lag(self):
        first, second = row_of_bars(5, 9, [(0, 9)]), row_of_bars(5, 9, [(2, 8)])
        for lag in range(7):
            for pairs in ((), ((0, 0),)):
                if judge_pairing([(0, 9)], [(2, 8)], pairs, lag):
                    self.assertEqual(weave(first, second, frame(first), frame(second), pairs, lag=lag).lag, lag)
                else:
                    with self.assertRaises(InvalidWeaving):
                        weave(first, second, frame(first), frame(second), pairs, lag=lag)

    def test_lag_is_passed_by_keyword(self):
        row = row_of_bars(5, 0, [])
        with self.assertRaises(TypeError):
            weave(row, row, (), (), (), 0)


def spoilt(first, second, ours, theirs, pairs, lag):
    """Places and what is put there instead, so that weave refuses it."""
    more = row_of_bars(first.base, 0, [(0, None)])
    yield 0, first.plus(more)
    yield 1, second.plus(more)
    for place, row, strands in ((2, first, ours), (3, second, theirs)):
        for at, (bar, vectors) in enumerate(strands):
            yield place, strands[:at] + strands[at + 1:]
            yield place, strands[:at] + (strands[at],) + strands[at:]
            yield place, strands[:at] + ((bar, vectors[:-1]),) + strands[at + 1:]
            yield place, strands[:at] + ((bar, ((0,) * len(vectors[0]),) * len(vectors)),) + strands[at + 1:]
            yield place, strands[:at] + (((bar[0], bar[0]), vectors),) + strands[at + 1:]
    if bars(first) != bars(second):
        yield 2, theirs
        yield 3, ours
    for number in (-1, len(ours), 10 ** 19):
        yield 4, tuple(sorted((*pairs, (number, 0))))
    for number in (-1, len(theirs), 10 ** 19):
        yield 4, tuple(sorted((*pairs, (0, number))))
    for at in range(len(pairs)):
        yield 4, pairs[:at] + (pairs[at],) + pairs[at:]
        fewer = pairs[:at] + pairs[at + 1:]
        if not judge_pairing(bars(first), bars(second), fewer, lag):
            yield 4, fewer
    if len(pairs) > 1:
        yield 4, pairs[::-1]


class PairsOfTest(unittest.TestCase):
    def judged(self, weaving):
        found = pairs_of(weaving)
        self.assertIs(type(found), tuple)
        self.assertTrue(all(type(pair) is tuple for pair in found))
        told = judge_pairing(bars(weaving.first), bars(weaving.second), found, weaving.lag)
        self.assertTrue(told, (bars(weaving.first), bars(weaving.second), found, weaving.lag))
        self.assertEqual(pairs_of(weaving), found)

    def test_of_weave_and_turned(self):
        for weaving in drawn_weavings(45, 14):
            self.judged(weaving)
            self.judged(weaving.turned())

    def test_of_then_and_slowed(self):
        for weaving in drawn_weavings(55, 8):
            self.judged(weaving.then(weaving.turned()))
            self.judged(weaving.turned().then(weaving))
            for more in (0, 1, 2, 9):
                self.judged(weaving.slowed(weaving.lag + more))
                self.judged(weaving.slowed(weaving.lag + more).turned())

    def test_of_beside_and_still(self):
        chance = random.Random(65)
        for _, first, second, lag in drawn_frames(66, 5):
            one = woven(first, second, lag)
            again = woven(second.later(1), second, max(lag, 1)) if chance.randrange(2) else one.turned()
            slow = max(one.lag, again.lag)
            self.judged(one.slowed(slow).beside(again.slowed(slow)))
            self.judged(Weaving.still(first))
            self.judged(Weaving.still(first).beside(Weaving.still(second)))

    def test_of_maps_that_mix_the_strands(self):
        chance = random.Random(75)
        mixed = 0
        for base in BASES:
            for _ in range(15):
                lag = chance.randrange(3)
                told = any_bars(chance, 6, 5)
                one = placed(chance, base, 6, told)
                two = placed(chance, base, 7, shaken(chance, told, 6, lag)[0])
                weaving = woven(one[0], two[0], lag)
                (here, undone), (there, again) = automorphism(chance, one), automorphism(chance, two)
                found = Weaving(undone.then(weaving.forth).then(there), again.then(weaving.back).then(here))
                mixed += found != weaving
                self.judged(found)
                self.judged(found.slowed(lag + 1))
                self.judged(found.then(weaving.turned()))
        self.assertGreater(mixed, 20)

    def test_told_pairs(self):
        row = row_of_bars(5, 3, [(0, None), (1, 3), (1, 3)])
        self.assertEqual(pairs_of(Weaving.still(row)), ((0, 0), (1, 1), (2, 2)))
        self.assertEqual(pairs_of(Weaving.still(row_of_bars(5, 3, []))), ())


def automorphism(chance, one):
    """A drawn map of a placed row to itself without a lag, and the one that undoes it."""
    row, _, told = one
    factors = factors_of(chance, row.base, told, told, 0)
    for i, j in factors:
        if i == j:
            factors[i, j] = chance.randrange(1, row.base)
        elif told[i] == told[j] and i > j:
            factors[i, j] = 0
    parts = parts_of(one, one, factors, 0)
    return LagMap(row, row, 0, parts), LagMap(row, row, 0, [inverse(part) for part in parts])


class MadeTest(unittest.TestCase):
    def test_still(self):
        chance = random.Random(85)
        for base in BASES:
            for _ in range(4):
                row = any_row(chance, base, chance.randrange(5), 4)
                found = Weaving.still(row)
                self.assertEqual((found.first, found.second, found.lag), (row, row, 0))
                self.assertEqual((found.forth, found.back), (LagMap.carrying(row, 0),) * 2)

    def test_turned(self):
        for weaving in drawn_weavings(95, 5):
            found = weaving.turned()
            self.assertEqual((found.forth, found.back), (weaving.back, weaving.forth))
            self.assertEqual((found.first, found.second, found.lag), (weaving.second, weaving.first, weaving.lag))
            self.assertEqual(found.turned(), weaving)

    def test_then(self):
        for chance, first, second, lag in drawn_frames(105, 5):
            a = woven(first, second, lag)
            told, _ = shaken(chance, bars(second), second.last, 1)
            third, _, _ = placed(chance, first.base, second.last + 1, told)
            b = woven(second, third, 1)
            found = a.then(b)
            self.assertEqual((found.first, found.second, found.lag), (first, third, lag + 1))
            for time in range(first.last + third.last + 3):
                self.assertEqual(found.forth.part(time), b.forth.part(time + lag) * a.forth.part(time))
                self.assertEqual(found.back.part(time), a.back.part(time + 1) * b.back.part(time))
            self.assertEqual(found.turned(), b.turned().then(a.turned()))
            self.assertEqual(a.then(Weaving.still(second)), a)

    def test_then_of_another_row(self):
        for weaving in drawn_weavings(115, 3):
            second = weaving.second
            for other in (
                second.prolonged(second.last + 1), second.plus(row_of_bars(second.base, 0, [(0, None)])),
                row_of_bars(5 if second.base != 5 else 7, second.last, []),
            ):
                with self.assertRaises(InvalidWeaving):
                    weaving.then(Weaving.still(other))
                with self.assertRaises(InvalidWeaving):
                    Weaving.still(other).then(weaving.turned())

    def test_slowed(self):
        for weaving in drawn_weavings(125, 5):
            first, second, lag = weaving.first, weaving.second, weaving.lag
            for more in (0, 1, 2, 5, 100):
                found = weaving.slowed(lag + more)
                self.assertEqual((found.first, found.second, found.lag), (first, second, lag + more))
                for time in range(max(first.last, second.last) + 2):
                    there = second.carry(time + lag, time + lag + more)
                    self.assertEqual(found.forth.part(time), there * weaving.forth.part(time))
                    again = first.carry(time + lag, time + lag + more)
                    self.assertEqual(found.back.part(time), again * weaving.back.part(time))
            self.assertEqual(weaving.slowed(lag), weaving)

    def test_slowed_to_less(self):
        for weaving in drawn_weavings(135, 3):
            for lag in (weaving.lag - 1, -1, -(10 ** 19)):
                with self.assertRaises(InvalidWeaving):
                    weaving.slowed(lag)

    def test_beside(self):
        for chance, first, second, lag in drawn_frames(145, 4):
            a = woven(first, second, lag)
            told = any_bars(chance, 4, 3)
            three, _, _ = placed(chance, first.base, 4, told)
            four, _, _ = placed(chance, first.base, 5, shaken(chance, told, 4, lag)[0])
            b = woven(three, four, lag)
            found = a.beside(b)
            self.assertEqual((found.first, found.second, found.lag), (first.plus(three), second.plus(four), lag))
            self.assertEqual(found.forth, a.forth.beside(b.forth))
            self.assertEqual(found.back, a.back.beside(b.back))

    def test_beside_of_another_lag_or_base(self):
        row, other = row_of_bars(5, 2, [(0, 2)]), row_of_bars(7, 2, [(0, 2)])
        with self.assertRaises(InvalidWeaving):
            Weaving.still(row).beside(Weaving.still(row).slowed(1))
        with self.assertRaises(InvalidRow):
            Weaving.still(row).beside(Weaving.still(other))
        # The lags are named first.
        with self.assertRaises(InvalidWeaving):
            Weaving.still(row).beside(Weaving.still(other).slowed(1))

    def test_the_weavings_stay(self):
        for weaving in drawn_weavings(155, 2):
            told = (weaving.forth, weaving.back, weaving.first, weaving.second, weaving.lag)
            for _ in range(2):
                again = [weaving.turned(), weaving.slowed(9), weaving.beside(weaving), weaving.then(weaving.turned())]
                found = [weaving.turned(), weaving.slowed(9), weaving.beside(weaving), weaving.then(weaving.turned())]
                self.assertEqual(found, again)
                self.assertEqual((weaving.forth, weaving.back, weaving.first, weaving.second, weaving.lag), told)

    def test_greatest_rows(self):
        chance = random.Random(165)
        steps = [any_matrix(chance, 97, 40, 39) * any_matrix(chance, 97, 39, 40) for _ in range(40)]
        row = Row(97, [40] * 41, steps)
        few = [change_of_base(chance, 97, 40) for _ in range(3)]
        changes = [few[time % 3] for time in range(41)]
        other = Row(97, [40] * 41, [changes[t + 1][0] * step * changes[t][1] for t, step in enumerate(steps)])
        forth = LagMap(row, other, 0, [there for there, _ in changes])
        back = LagMap(other, row, 0, [undone for _, undone in changes])
        weaving = Weaving(forth, back)
        self.assertEqual(pairs_of(weaving), tuple((place, place) for place in range(len(bars(row)))))
        self.assertEqual(weaving.then(weaving.turned()), Weaving.still(row))


if __name__ == "__main__":
    unittest.main()
