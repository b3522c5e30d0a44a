"""Points [20] to [23]: near and long bars, pairings, lonely lots, the least pairing, pairs by deaths and births."""

import random
import time
import unittest
from itertools import combinations

from barswoven.pairing import (
    are_near, by_births, by_deaths, is_apart, is_lonely, is_long, is_pairing, least_pairing, pair_within,
)

from drawn import any_bars, are_close, by_hand, judge_apart, judge_lot, judge_pairing, lasts, shaken

FAR = (-1, -2, -(10 ** 19), 10 ** 19)


def drawn_lists(seed, times, last=8, many=6):
    chance = random.Random(seed)
    for _ in range(times):
        first, second = (any_bars(chance, last, chance.randrange(many)) for _ in range(2))
        if chance.randrange(2):
            second, _ = shaken(chance, first, last, chance.randrange(4))
        yield chance, first, second


def search(first, second, lag):
    """True if there is a pairing, by trying what each bar of the first list may be paired with."""
    def tried(place, taken):
        if place == len(first):
            return not any(lasts(bar, lag) for at, bar in enumerate(second) if at not in taken)
        if not lasts(first[place], lag) and tried(place + 1, taken):
            return True
        return any(
            tried(place + 1, taken | {at}) for at, bar in enumerate(second)
            if at not in taken and are_close(first[place], bar, lag)
        )

    return tried(0, frozenset())


class NearAndLongTest(unittest.TestCase):
    def test_edges_of_near(self):
        for lag in (0, 1, 2, 7, 100):
            bar = (20, 30)
            for births, deaths, told in (
                (0, 0, True), (lag, 0, True), (-lag, 0, True), (0, lag, True), (0, -lag, True), (lag, lag, True),
                (-lag, lag, True), (lag + 1, 0, False), (-lag - 1, 0, False), (0, lag + 1, False),
                (0, -lag - 1, False), (lag, lag + 1, False), (lag + 1, lag, False), (-lag - 1, lag + 1, False),
            ):
                other = (20 + births, 30 + deaths)
                self.assertIs(are_near(bar, other, lag=lag), told)
                self.assertIs(are_near(other, bar, lag=lag), told)

    def test_bars_that_never_die(self):
        for lag in (0, 1, 5, 100):
            self.assertIs(are_near((3, None), (3 + lag, None), lag=lag), True)
            self.assertIs(are_near((3 + lag, None), (3, None), lag=lag), True)
            self.assertIs(are_near((3, None), (4 + lag, None), lag=lag), False)
            for death in (4, 40, 1000):
                self.assertIs(are_near((3, None), (3, death), lag=lag), False)
                self.assertIs(are_near((3, death), (3, None), lag=lag), False)

    def test_edges_of_long(self):
        for lag in (0, 1, 2, 7, 100):
            for birth in (0, 5):
                self.assertIs(is_long((birth, birth + 2 * lag), lag=lag), False)
                self.assertIs(is_long((birth, birth + 2 * lag + 1), lag=lag), True)
                self.assertIs(is_long((birth, None), lag=lag), True)
        self.assertIs(is_long((0, 1), lag=0), True)
        self.assertIs(is_long((0, 1), lag=1), False)

    def test_all_small_bars(self):
        told = [(b, e) for b in range(5) for e in (*range(b + 1, 7), None)]
        for lag in range(4):
            for bar in told:
                self.assertIs(is_long(bar, lag=lag), lasts(bar, lag))
                for other in told:
                    self.assertIs(are_near(bar, other, lag=lag), are_close(bar, other, lag))

    def test_lag_is_passed_by_keyword(self):
        with self.assertRaises(TypeError):
            are_near((0, 1), (0, 1), 0)
        with self.assertRaises(TypeError):
            is_long((0, 1), 0)


class IsPairingTest(unittest.TestCase):
    first = [(0, 4), (0, 4), (2, None), (5, 6)]
    second = [(3, None), (1, 5), (0, 3), (6, 8)]

    def test_told_pairings(self):
        for pairs in (((0, 1), (1, 2), (2, 0)), [(0, 2), (1, 1), (2, 0)]):
            self.assertIs(is_pairing(self.first, self.second, pairs, lag=1), True)
            self.assertIs(is_pairing(tuple(self.first), tuple(self.second), pairs, lag=1), True)
        for pairs, lag in (
            ((), 1), (((0, 1), (1, 2)), 1), (((0, 1), (2, 0)), 1), (((2, 0),), 1), (((0, 1), (1, 1), (2, 0)), 1),
            (((0, 1), (0, 2), (2, 0)), 1), (((1, 2), (0, 1), (2, 0)), 1), (((0, 1), (1, 2), (2, 0), (3, 3)), 1),
            (((0, 1), (1, 2), (2, 0)), 0), (((0, 1), (1, 2), (2, 0), (2, 0)), 1), (((0, 0), (1, 2), (2, 1)), 1),
            (((0, 1), (1, 2), (2, 0), (4, 3)), 1), (((0, 1), (1, 2), (2, 0), (3, 4)), 1),
            (((-1, 3), (0, 1), (1, 2), (2, 0)), 1), (((0, 1), (1, 2), (2, -4)), 1), (((-4, 1), (1, 2), (2, 0)), 1),
        ):
            self.assertIs(is_pairing(self.first, self.second, pairs, lag=lag), False, (pairs, lag))

    def test_short_bars_may_be_left_out(self):
        for pairs in ((), ((0, 1),), ((0, 2),), ((1, 2),), ((3, 3),), ((0, 1), (1, 2), (3, 3))):
            told = ((2, 0),) if not pairs else tuple(sorted((*pairs, (2, 0))))
            self.assertIs(is_pairing(self.first, self.second, told, lag=2), True)
            self.assertIs(is_pairing(self.first, self.second, pairs, lag=2), False)

    def test_empty_lists(self):
        self.assertIs(is_pairing([], [], [], lag=0), True)
        self.assertIs(is_pairing([], [], (), lag=100), True)
        self.assertIs(is_pairing([], [], [(0, 0)], lag=0), False)
        self.assertIs(is_pairing([(0, 1)], [], [], lag=0), False)
        self.assertIs(is_pairing([], [(0, 1)], [], lag=0), False)
        self.assertIs(is_pairing([(0, 2)], [], [], lag=1), True)
        self.assertIs(is_pairing([], [(0, 2)], [], lag=1), True)
        self.assertIs(is_pairing([(0, 1)], [], [(0, 0)], lag=1), False)

    def test_one_thing_spoilt(self):
        seen = {True: 0, False: 0}
        for chance, first, second in drawn_lists(21, 60):
            lag = least_lag(first, second)
            if lag is None:
                continue
            _, pairs = pair_within(first, second, lag=lag)
            self.assertIs(is_pairing(first, second, pairs, lag=lag), True)
            self.assertIs(is_pairing(first, second, list(pairs), lag=lag), True)
            for changed in spoilt_pairs(pairs, len(first), len(second)):
                for near in {lag, lag + 1, max(lag - 1, 0)}:
                    told = judge_pairing(first, second, changed, near)
                    seen[told] += 1
                    self.assertIs(is_pairing(first, second, changed, lag=near), told, (first, second, changed, near))
        self.assertGreater(seen[False], 1000)
        self.assertGreater(seen[True], 20)


def least_lag(first, second):
    answer = least_pairing(first, second)
    return answer[1] if answer[0] == "within" else None


def spoilt_pairs(pairs, many, others):
    for at, (one, other) in enumerate(pairs):
        for number in (*FAR, *range(many + 1), one - many):
            yield pairs[:at] + ((number, other),) + pairs[at + 1:]
        for number in (*FAR, *range(others + 1), other - others):
            yield pairs[:at] + ((one, number),) + pairs[at + 1:]
        yield pairs[:at] + pairs[at + 1:]
        yield pairs[:at] + (pairs[at],) + pairs[at:]
        yield pairs[at:] + pairs[:at]
    yield pairs[::-1]
    yield tuple((other, one) for one, other in pairs)
    for one in range(many):
        for other in range(others):
            yield tuple(sorted((*pairs, (one, other))))


class IsLonelyTest(unittest.TestCase):
    def test_told_lots(self):
        first, second = [(0, 9), (1, 9), (2, None), (4, 6)], [(1, 10), (5, 7)]
        for side, places, lag, told in (
            ("first", (0, 1), 1, True), ("first", [0, 1], 1, True), ("first", (0, 1, 2), 1, True),
            ("first", (2,), 1, True), ("first", (0,), 1, False), ("first", (1,), 1, False), ("first", (0,), 0, True),
            ("first", (0, 2), 1, True), ("first", (), 1, False), ("first", (1, 0), 1, False),
            ("first", (2, 2), 1, False), ("first", (3,), 1, False), ("first", (2, 3), 1, False),
            ("first", (3,), 0, True), ("first", (4,), 1, False), ("first", (2, 4), 1, False),
            ("first", (-2,), 1, False), ("first", (-2, 2), 1, False), ("first", (2, 10 ** 19), 1, False),
            ("first", (2,), 100, True), ("first", (0, 1), 4, False), ("first", (0, 1, 2), 4, False),
            ("second", (0,), 1, False), ("second", (0,), 0, True), ("second", (1,), 0, True),
            ("second", (0, 1), 0, True), ("second", (2,), 0, False), ("second", (), 0, False),
        ):
            self.assertIs(is_lonely(first, second, side, places, lag=lag), told, (side, places, lag))

    def test_all_lots_of_small_lists(self):
        seen = {True: 0, False: 0}
        for _, first, second in drawn_lists(31, 40, many=4):
            for side, many in (("first", len(first)), ("second", len(second))):
                for size in range(min(many, 4) + 1):
                    for places in combinations(range(many), size):
                        for lag in range(4):
                            told = judge_lot(first, second, side, places, lag)
                            seen[told] += 1
                            self.assertIs(is_lonely(first, second, side, places, lag=lag), told)
        self.assertGreater(min(seen.values()), 200)

    def test_one_thing_spoilt(self):
        seen = {True: 0, False: 0}
        for _, first, second in drawn_lists(41, 60):
            for lag in range(4):
                answer = pair_within(first, second, lag=lag)
                if answer[0] == "lonely":
                    _, side, places = answer
                    many = len(first) if side == "first" else len(second)
                    self.assertIs(is_lonely(first, second, side, list(places), lag=lag), True)
                    for changed in spoilt_places(places, many):
                        for where in ("first", "second"):
                            told = judge_lot(first, second, where, changed, lag)
                            seen[told] += 1
                            self.assertIs(is_lonely(first, second, where, changed, lag=lag), told)
        self.assertGreater(min(seen.values()), 200)


def spoilt_places(places, many):
    for at, place in enumerate(places):
        for number in (*FAR, *range(many + 1), place - many):
            yield places[:at] + (number,) + places[at + 1:]
        yield places[:at] + places[at + 1:]
        yield places[:at] + (place,) + places[at:]
    yield places
    yield places[::-1]
    yield ()
    for number in (*FAR, *range(many + 1)):
        yield tuple(sorted((*places, number)))
        yield (*places, number)


class IsApartTest(unittest.TestCase):
    def test_told_places(self):
        first, second = [(0, None), (0, 4), (3, None)], [(7, None), (0, 4), (1, 5), (2, 6)]
        for side, places, told in (
            ("first", (0, 2), True), ("first", [0, 2], True), ("first", (0,), False), ("first", (2, 0), False),
            ("first", (0, 0), False), ("first", (0, 1), False), ("first", (0, 1, 2), False), ("first", (), False),
            ("first", (0, 3), False), ("first", (-1, 0), False), ("first", (-3, 2), False), ("first", (0, 2, 2), False),
            ("first", (0, 10 ** 19), False), ("second", (0,), False), ("second", (), False), ("second", (0, 1), False),
            ("second", (1, 2, 3), False), ("second", (0, 2), False),
        ):
            self.assertIs(is_apart(first, second, side, places), told, (side, places))
            turned = "second" if side == "first" else "first"
            self.assertIs(is_apart(second, first, turned, places), told, (side, places))

    def test_empty_lists(self):
        self.assertIs(is_apart([(0, None)], [], "first", (0,)), True)
        self.assertIs(is_apart([], [(0, None)], "second", [0]), True)
        self.assertIs(is_apart([], [], "first", ()), False)
        self.assertIs(is_apart([(0, 3)], [], "first", (0,)), False)

    def test_one_thing_spoilt(self):
        seen = {True: 0, False: 0}
        for _, first, second in drawn_lists(51, 80):
            for side, ours in (("first", first), ("second", second)):
                places = tuple(place for place, bar in enumerate(ours) if bar[1] is None)
                for changed in spoilt_places(places, len(ours)):
                    told = judge_apart(first, second, side, changed)
                    seen[told] += 1
                    self.assertIs(is_apart(first, second, side, changed), told)
        self.assertGreater(min(seen.values()), 100)


class PairWithinTest(unittest.TestCase):
    def judged(self, first, second, lag):
        answer = pair_within(first, second, lag=lag)
        self.assertIs(type(answer), tuple)
        if answer[0] == "paired":
            _, pairs = answer
            self.assertIs(type(pairs), tuple)
            self.assertTrue(all(type(pair) is tuple for pair in pairs))
            self.assertTrue(judge_pairing(first, second, pairs, lag), (first, second, pairs, lag))
        else:
            word, side, places = answer
            self.assertEqual(word, "lonely")
            self.assertIn(side, ("first", "second"))
            self.assertIs(type(places), tuple)
            self.assertTrue(judge_lot(first, second, side, places, lag), (first, second, side, places, lag))
        self.assertEqual(pair_within(tuple(first), tuple(second), lag=lag), answer)
        return answer

    def test_against_a_slow_search(self):
        seen = []
        for _, first, second in drawn_lists(61, 120):
            for lag in range(5):
                answer = self.judged(first, second, lag)
                seen.append(answer[:2] if answer[0] == "lonely" else answer[0])
                self.assertEqual(answer[0] == "paired", search(first, second, lag), (first, second, lag))
        for told in ("paired", ("lonely", "first"), ("lonely", "second")):
            self.assertGreater(seen.count(told), 30)

    def test_long_bars_of_both_lists(self):
        # Long bars of one list may have to share short ones of the other with each other, in both directions.
        chance = random.Random(71)
        for _ in range(150):
            first, second = (
                [(birth, birth + chance.choice((2, 3, 4, 5))) for birth in chance.choices(range(4), k=4)]
                for _ in range(2)
            )
            for lag in (1, 2):
                answer = self.judged(first, second, lag)
                self.assertEqual(answer[0] == "paired", search(first, second, lag))

    def test_one_that_must_change_its_mate(self):
        # The bar (3, 7) fits both others, (2, 6) only one of them.
        self.assertEqual(self.judged([(3, 7), (2, 6)], [(2, 6), (4, 8)], 1), ("paired", ((0, 1), (1, 0))))
        self.assertEqual(self.judged([(2, 6), (4, 8)], [(3, 7), (2, 6)], 1), ("paired", ((0, 1), (1, 0))))

    def test_a_short_mate_that_is_given_up(self):
        # Within 1 the bar (2, 4) is short: it leaves its mate to the long one that needs it.
        self.assertEqual(self.judged([(1, 5), (2, 4)], [(1, 5), (1, 4)], 1)[0], "paired")
        self.assertEqual(self.judged([(0, 3)], [(1, 3), (1, 4)], 1), ("paired", ((0, 1),)))
        self.assertEqual(self.judged([(1, 3), (1, 4)], [(0, 3)], 1), ("paired", ((1, 0),)))

    def test_empty_lists(self):
        self.assertEqual(pair_within([], [], lag=0), ("paired", ()))
        self.assertEqual(pair_within([(0, 1)], [], lag=0), ("lonely", "first", (0,)))
        self.assertEqual(pair_within([], [(0, 1)], lag=0), ("lonely", "second", (0,)))
        self.assertEqual(pair_within([(0, 4), (1, 3)], [], lag=2), ("paired", ()))
        self.assertEqual(pair_within([], [(3, None)], lag=100), ("lonely", "second", (0,)))

    def test_lists_of_eighty_bars_in_a_short_time(self):
        chance = random.Random(81)
        start = time.monotonic()
        for kind in range(6):
            first = any_bars(chance, 40, 64)
            second, _ = shaken(chance, first, 40, kind) if kind else (any_bars(chance, 40, 64), ())
            for lag in (0, 1, 2, kind, 10, 20, 100):
                self.judged(first, second[:80], lag)
        # All bars are near to each other, but there is one too many.
        many, few = [(10, 30)] * 80, [(11, 29)] * 79
        self.assertEqual(self.judged(many, few, 1)[:2], ("lonely", "first"))
        self.assertEqual(self.judged(few, many, 1)[:2], ("lonely", "second"))
        self.assertEqual(self.judged(many, few + [(9, 31)], 1)[0], "paired")
        stairs, higher = [(at, at + 30) for at in range(80)], [(at + 1, at + 31) for at in range(80)]
        self.assertEqual(self.judged(stairs, higher, 1)[0], "paired")
        self.assertEqual(self.judged(stairs, higher[1:] + [(200, 260)], 1)[0], "lonely")
        self.assertLess(time.monotonic() - start, 20)

    def test_the_lists_stay(self):
        first, second = [(3, 9), (0, None)], [(1, None), (3, 8)]
        pair_within(first, second, lag=1)
        least_pairing(first, second)
        self.assertEqual((first, second), ([(3, 9), (0, None)], [(1, None), (3, 8)]))


class LeastPairingTest(unittest.TestCase):
    def judged(self, first, second):
        answer = least_pairing(first, second)
        self.assertIs(type(answer), tuple)
        if answer[0] == "within":
            _, lag, pairs, lonely = answer
            self.assertIs(type(pairs), tuple)
            self.assertTrue(judge_pairing(first, second, pairs, lag), (first, second, answer))
            if lag == 0:
                self.assertIsNone(lonely)
            else:
                word, side, places = lonely
                self.assertIs(type(places), tuple)
                self.assertEqual(word, "lonely")
                self.assertTrue(judge_lot(first, second, side, places, lag - 1))
        else:
            word, side, places = answer
            self.assertEqual(word, "apart")
            self.assertIs(type(places), tuple)
            self.assertTrue(judge_apart(first, second, side, places))
        self.assertEqual(least_pairing(tuple(first), tuple(second)), answer)
        return answer

    def test_against_a_slow_search(self):
        seen = []
        for _, first, second in drawn_lists(91, 150):
            answer = self.judged(first, second)
            lags = [lag for lag in range(9) if search(first, second, lag)]
            self.assertEqual(answer[0] == "within", bool(lags))
            if lags:
                self.assertEqual(answer[1], lags[0])
            seen.append(answer[:2] if lags else answer[0])
        self.assertGreater(len(set(seen)), 5)
        self.assertGreater(seen.count("apart"), 20)

    def test_told_lags(self):
        for first, second, lag in (
            ([], [], 0), ([(0, 1)], [], 1), ([(0, 2)], [], 1), ([(0, 3)], [], 2), ([], [(5, 40)], 18),
            ([(0, None)], [(40, None)], 40), ([(0, 4)], [(0, 4)], 0), ([(0, 40)], [(20, 40)], 20),
            ([(0, 40)], [(21, 40)], 20), ([(0, 30)], [(3, 25)], 5), ([(0, None), (7, None)], [(9, None), (2, None)], 2),
        ):
            self.assertEqual(self.judged(first, second)[:2], ("within", lag))
            self.assertEqual(self.judged(second, first)[:2], ("within", lag))

    def test_apart(self):
        self.assertEqual(self.judged([(3, None), (0, 2), (0, None)], [(0, None)]), ("apart", "first", (0, 2)))
        self.assertEqual(self.judged([(0, 2)], [(0, 2), (1, None)]), ("apart", "second", (1,)))
        self.assertEqual(self.judged([], [(0, None)] * 3)[:2], ("apart", "second"))

    def test_lists_of_eighty_bars_in_a_short_time(self):
        chance = random.Random(101)
        start = time.monotonic()
        for kind in range(8):
            first = any_bars(chance, 40, 64)
            second = shaken(chance, first, 40, kind)[0] if kind else any_bars(chance, 40, 64)
            self.judged(first, second[:80])
        self.judged([(0, None)] * 80, [(40, None)] * 80)
        self.judged([(at % 40, 40) for at in range(80)], [(at % 40, 40) for at in range(79, -1, -1)])
        self.assertLess(time.monotonic() - start, 20)


class ByDeathsAndBirthsTest(unittest.TestCase):
    def deaths_by_hand(self, part, whole, lag):
        found = []
        for death in {bar[1] for bar in part}:
            later = None if death is None else death + lag
            ours = sorted((bar[0], place) for place, bar in enumerate(part) if bar[1] == death)
            theirs = sorted((bar[0], place) for place, bar in enumerate(whole) if bar[1] == later)
            found += [(one[1], other[1]) for one, other in zip(ours, theirs)]
        return sorted(found)

    def births_by_hand(self, whole, made):
        found = []
        for birth in range(50):
            lists = []
            for told in (whole, made):
                places = [place for place, bar in enumerate(told) if bar[0] == birth]
                lists.append(sorted(places, key=lambda place: (-by_hand(told[place])[1], place)))
            found += list(zip(*lists))
        return sorted(found)

    def test_told_deaths(self):
        part = [(4, 9), (2, 9), (3, None), (1, 5), (2, 9)]
        whole = [(0, 9), (5, None), (0, 11), (0, None), (3, 11), (1, 11), (0, 11)]
        # By birth: 1, 4 and 0 of part; 2, 6, 5 and 4 of whole.
        self.assertEqual(by_deaths(part, whole, lag=2), [(0, 5), (1, 2), (2, 3), (4, 6)])
        self.assertEqual(by_deaths(part, whole), [(1, 0), (2, 3)])
        self.assertEqual(by_deaths(part, whole, lag=0), [(1, 0), (2, 3)])
        self.assertEqual(by_deaths(part, whole, lag=4), [(2, 3), (3, 0)])
        self.assertEqual(by_deaths([], whole, lag=2), [])
        self.assertEqual(by_deaths(part, [], lag=2), [])

    def test_told_births(self):
        whole = [(1, 5), (1, None), (0, 3), (1, 5), (2, None), (1, 9)]
        made = [(1, 4), (1, None), (1, 5), (0, 2), (3, None), (1, None), (0, 1)]
        # From the latest death: 1, 5, 0 and 3 of whole; 1, 5, 2 and 0 of made.
        self.assertEqual(by_births(whole, made), [(0, 2), (1, 1), (2, 3), (3, 0), (5, 5)])
        self.assertEqual(by_births(made, whole), [(0, 3), (1, 1), (2, 0), (3, 2), (5, 5)])
        self.assertEqual(by_births([], made), [])
        self.assertEqual(by_births(whole, []), [])

    def test_drawn_lists(self):
        for chance, first, second in drawn_lists(111, 200, last=4, many=9):
            lag = chance.randrange(4)
            passed = list(first), list(second)
            self.assertEqual(by_deaths(first, second, lag=lag), self.deaths_by_hand(first, second, lag))
            self.assertEqual(by_deaths(first, second), self.deaths_by_hand(first, second, 0))
            self.assertEqual(by_births(first, second), self.births_by_hand(first, second))
            self.assertEqual((first, second), passed)
            for found in (by_deaths(tuple(first), tuple(second), lag=lag), by_births(tuple(first), tuple(second))):
                self.assertIs(type(found), list)
                self.assertTrue(all(type(pair) is tuple for pair in found))

    def test_lag_is_passed_by_keyword(self):
        with self.assertRaises(TypeError):
            by_deaths([], [], 0)


if __name__ == "__main__":
    unittest.main()
