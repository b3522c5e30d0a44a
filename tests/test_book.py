"""Points [36] to [38]: the book of rows and claims."""

import random
import time
import unittest

from barswoven.bars import bars, row_of_bars
from barswoven.book import Book
from barswoven.comparing import compare
from barswoven.errors import DuplicateName, InvalidName, NoChain, UnknownName
from barswoven.frames import frame
from barswoven.lagmap import LagMap
from barswoven.matrix import Matrix
from barswoven.pairing import pair_within
from barswoven.row import Row
from barswoven.weaving import Weaving, weave

from booked import NAMES, any_book, any_rows, chains, least_sum, least_told, told_apart
from drawn import any_matrix, judge_apart, judge_lot

FAR = (-1, -2, -(10 ** 19), 10 ** 19)
ROW = Row(5, [1], [])


def endless(base, births, last=20):
    return row_of_bars(base, last, [(birth, None) for birth in births])


def woven(first, second, more=0):
    weaving = compare(first, second)[1]
    return weaving.slowed(weaving.lag + more)


def drawn_books(seed, times, most_rows=5, most_claims=8):
    chance = random.Random(seed)
    for _ in range(times):
        yield any_book(chance, chance.choice((2, 5, 97)), most_rows, most_claims)


class NameTest(unittest.TestCase):
    def test_names_of_all_lengths(self):
        book, told = Book(), []
        for many in range(1, 13):
            for name in ("z" * many, "abcdefghijklm"[:many - 1] + "q", "nopqrstuvwxyz"[-many:]):
                if name not in told:
                    self.assertIsNone(book.add(name, ROW))
                    told.append(name)
        self.assertEqual(book.names(), told)

    def test_each_letter(self):
        book = Book()
        for letter in "abcdefghijklmnopqrstuvwxyz":
            book.add(letter, ROW)
        self.assertEqual("".join(book.names()), "abcdefghijklmnopqrstuvwxyz")

    def refused(self, book, name, kind=InvalidName):
        with self.assertRaises(kind) as caught:
            book.add(name, ROW)
        self.assertEqual(caught.exception.name, name)

    def test_wrong_names(self):
        book = Book()
        for name in ("", "a" * 13, "abcdefghijklm", "z" * 100, "`", "{", "aa ", " a", "a\n", "A", "abcdefghijklM"):
            self.refused(book, name)
        for many in range(1, 13):
            for place in range(many):
                for sign in "AZ09_- \n\t.@[`{\u00e9\u00df\u0430\u0131\uff41\x00":
                    self.refused(book, "a" * place + sign + "a" * (many - 1 - place))
        self.assertEqual(book.names(), [])

    def test_names_that_are_taken(self):
        book = Book()
        for name in NAMES:
            book.add(name, ROW)
        for name in NAMES:
            for row in (ROW, Row(7, [0], [])):
                with self.assertRaises(DuplicateName) as caught:
                    book.add(name, row)
                self.assertEqual(caught.exception.name, name)
        self.assertEqual(book.names(), list(NAMES))
        self.assertTrue(all(book.row(name) == ROW for name in NAMES))

    def test_invalid_ahead_of_duplicate(self):
        book = Book()
        for _ in range(2):
            self.refused(book, "A")
        book.add("a", ROW)
        self.refused(book, "A")
        self.refused(book, "a", DuplicateName)

    def test_order_of_names(self):
        book = Book()
        for name in ("b", "zz", "a"):
            book.add(name, ROW)
        found = book.names()
        self.assertIs(type(found), list)
        found.append("more")
        del found[0]
        self.assertEqual(book.names(), ["b", "zz", "a"])

    def test_rows(self):
        for book, names, rows, _ in drawn_books(36, 10):
            self.assertEqual(book.names(), names)
            for name, row in zip(names, rows):
                self.assertEqual(book.row(name), row)


class UnknownNameTest(unittest.TestCase):
    def setUp(self):
        self.book = Book()
        self.book.add("a", ROW)
        self.book.add("b", ROW)
        self.book.offer_weaving("a", "b", Weaving.still(ROW))

    def unknown(self, name, method, *told):
        with self.assertRaises(UnknownName) as caught:
            getattr(self.book, method)(*told)
        self.assertEqual(caught.exception.name, name)
        self.assertEqual(self.book.names(), ["a", "b"])
        self.assertEqual(self.book.claims(), [("woven", "a", "b", Weaving.still(ROW))])

    def test_every_method(self):
        still = Weaving.still(ROW)
        for told, name in (
            (("a", "x"), "x"), (("x", "a"), "x"), (("x", "y"), "x"), (("y", "x"), "y"), (("x", "x"), "x"),
            (("A", "b"), "A"), (("b", ""), ""), (("ab", "A"), "ab"),
        ):
            for method in ("high", "low", "weaving", "are_apart"):
                self.unknown(name, method, *told)
            self.unknown(name, "offer_weaving", *told, still)
            for places in ([], [0], [0, 1], [-1]):
                self.unknown(name, "offer_lonely", *told, 0, "first", places)
                self.unknown(name, "offer_lonely", *told, 3, "second", places)
                self.unknown(name, "offer_apart", *told, "first", places)
        for name in ("x", "", "A", "ab"):
            self.unknown(name, "row", name)

    def test_the_empty_book(self):
        book = Book()
        with self.assertRaises(UnknownName):
            book.row("a")
        with self.assertRaises(UnknownName):
            book.weaving("a", "a")
        self.assertEqual((book.names(), book.claims()), ([], []))


class OfferWeavingTest(unittest.TestCase):
    def test_weavings_of_the_rows_alone(self):
        first, second = endless(5, [0, 3]), endless(5, [1, 4])
        weaving = woven(first, second)
        told = {
            "a": first, "b": second, "c": first, "d": first.prolonged(21), "e": second.prolonged(21),
            "f": endless(7, [0, 3]), "g": endless(7, [1, 4]), "h": endless(5, [0]),
        }
        book, accepted = Book(), []
        for name, row in told.items():
            book.add(name, row)
        for one, row in told.items():
            for other, beside in told.items():
                for offer in (weaving, weaving.turned(), weaving.slowed(3), Weaving.still(row)):
                    right = offer.first == row and offer.second == beside
                    self.assertIs(book.offer_weaving(one, other, offer), right)
                    if right:
                        accepted.append(("woven", one, other, offer))
                    self.assertEqual(book.claims(), accepted)
        self.assertGreater(len(accepted), 10)

    def test_no_vectors_at_all(self):
        book = Book()
        none = Matrix.zero(5, 0, 0)
        for name, row in (("a", Row(5, [0], [])), ("b", Row(7, [0], [])), ("c", Row(5, [0, 0], [none]))):
            book.add(name, row)
        for one in "abc":
            for other in "abc":
                still = Weaving.still(book.row(one))
                self.assertIs(book.offer_weaving(one, other, still), one == other)


class OfferPlacesTest(unittest.TestCase):
    def test_lonely_lots(self):
        chance = random.Random(37)
        seen = {True: 0, False: 0}
        for _ in range(12):
            rows = any_rows(chance, 5, 2)
            rows.append(row_of_bars(7, 5, bars(rows[0])[:2] if rows[0].last <= 5 else []))
            book, accepted = Book(), []
            for name, row in zip("abc", rows):
                book.add(name, row)
            for lag in (0, 1, 2, 5, 100):
                for one, first in zip("abc", rows):
                    for other, second in zip("abc", rows):
                        ours, theirs = bars(first), bars(second)
                        for side in ("first", "second"):
                            for places in self.some_places(ours, theirs, side, lag):
                                right = first.base == second.base and judge_lot(ours, theirs, side, places, lag)
                                self.assertIs(book.offer_lonely(one, other, lag, side, places), right)
                                if right:
                                    accepted.append(("lonely", one, other, lag, side, tuple(places)))
                                seen[right] += 1
            self.assertEqual(book.claims(), accepted)
        self.assertGreater(seen[True], 60)
        self.assertGreater(seen[False], 1000)

    def some_places(self, ours, theirs, side, lag):
        found = pair_within(ours, theirs, lag=lag)
        right = list(found[2]) if found[:2] == ("lonely", side) else [0]
        yield from spoilt(right)

    def test_apart(self):
        rows = {"a": endless(5, [0, 3]), "b": endless(5, [1]), "c": endless(7, [1]), "d": endless(5, [])}
        rows["e"] = row_of_bars(5, 9, [(0, 1), (0, None), (2, 5), (3, None), (4, 9), (5, None)])
        book, accepted = Book(), []
        for name, row in rows.items():
            book.add(name, row)
        for one, first in rows.items():
            for other, second in rows.items():
                ours, theirs = bars(first), bars(second)
                for side in ("first", "second"):
                    mine = ours if side == "first" else theirs
                    lasting = [place for place, bar in enumerate(mine) if bar[1] is None]
                    for places in (*spoilt(lasting), *spoilt(lasting[:-1])):
                        right = first.base == second.base and judge_apart(ours, theirs, side, places)
                        self.assertIs(book.offer_apart(one, other, side, places), right)
                        if right:
                            accepted.append(("apart", one, other, side, tuple(places)))
        self.assertEqual(book.claims(), accepted)
        self.assertGreater(len(accepted), 30)

    def test_other_bases(self):
        book = Book()
        book.add("a", endless(5, [0, 1]))
        book.add("b", endless(7, [0]))
        book.add("c", endless(5, [0]))
        for other, told in (("b", False), ("c", True)):
            self.assertIs(book.offer_lonely("a", other, 3, "first", [0, 1]), told)
            self.assertIs(book.offer_lonely(other, "a", 3, "second", (0, 1)), told)
            self.assertIs(book.offer_apart("a", other, "first", [0, 1]), told)
            self.assertIs(book.offer_apart(other, "a", "second", (0, 1)), told)
        self.assertEqual(len(book.claims()), 4)

    def test_a_negative_lag(self):
        book = Book()
        book.add("a", endless(5, [0]))
        for lag in FAR[:3]:
            self.assertIs(book.offer_lonely("a", "a", lag, "first", [0]), False)
        self.assertEqual(book.claims(), [])


def spoilt(places):
    """Places as a list and as a tuple, and with one thing spoilt."""
    yield list(places)
    yield tuple(places)
    yield list(places)[::-1]
    yield []
    for at in range(len(places)):
        for number in (*FAR, *range(6)):
            yield [*places[:at], number, *places[at + 1:]]
        yield [*places[:at], *places[at + 1:]]
        yield [*places[:at], places[at], *places[at:]]
    for number in FAR:
        yield [number, *places]
        yield [*places, number]


class ClaimTest(unittest.TestCase):
    def test_in_order(self):
        for book, _, _, claims in drawn_books(38, 25):
            self.assertEqual(book.claims(), claims)

    def test_accepted_twice(self):
        book = Book()
        book.add("a", endless(5, [0, 3]))
        book.add("b", endless(5, [6]))
        book.add("c", endless(5, [1, 3]))
        weaving = woven(book.row("a"), book.row("c"))
        for _ in range(3):
            self.assertIs(book.offer_weaving("a", "c", weaving), True)
            self.assertIs(book.offer_lonely("b", "a", 2, "second", [0]), True)
            self.assertIs(book.offer_apart("a", "b", "first", [0, 1]), True)
        self.assertEqual(book.claims(), [
            ("woven", "a", "c", weaving), ("lonely", "b", "a", 2, "second", (0,)), ("apart", "a", "b", "first", (0, 1)),
        ] * 3)

    def test_lists_are_changed_afterwards(self):
        book = Book()
        book.add("a", endless(5, [0, 3]))
        book.add("b", endless(5, [6]))
        places = [0, 1]
        book.offer_lonely("a", "b", 9, "first", places)
        book.offer_apart("a", "b", "first", places)
        places.append(7)
        places[0] = 5
        told = [("lonely", "a", "b", 9, "first", (0, 1)), ("apart", "a", "b", "first", (0, 1))]
        found = book.claims()
        self.assertEqual(found, told)
        self.assertIs(type(found), list)
        found.clear()
        self.assertEqual(book.claims(), told)

    def test_two_books(self):
        one, other = Book(), Book()
        one.add("a", endless(5, [0]))
        self.assertEqual(other.names(), [])
        with self.assertRaises(UnknownName):
            other.row("a")
        other.add("a", endless(5, [3]))
        other.add("b", endless(5, [4]))
        other.offer_weaving("a", "b", woven(other.row("a"), other.row("b")))
        other.offer_lonely("a", "b", 0, "first", [0])
        self.assertEqual((one.names(), one.claims()), (["a"], []))
        self.assertEqual(one.row("a"), endless(5, [0]))
        one.add("b", endless(5, [4]))
        self.assertIsNone(one.high("a", "b"))
        self.assertEqual((other.high("a", "b"), other.low("a", "b"), one.low("a", "b")), (1, 1, 0))

    def test_no_equality_of_its_own(self):
        one = Book()
        self.assertIs(one == Book(), False)
        self.assertIs(one == one, True)
        self.assertEqual(one.claims() + one.names(), [])


class ChainTest(unittest.TestCase):
    def judged(self, book, names, claims):
        for one in names:
            for other in names:
                told = least_sum(claims, one, other)
                self.assertEqual(book.high(one, other), told)
                self.assertEqual(book.low(one, other), least_told(claims, one, other))
                self.assertIs(book.are_apart(one, other), told_apart(claims, one, other))
                if told is None:
                    with self.assertRaises(NoChain):
                        book.weaving(one, other)
                else:
                    self.check_weaving(book, one, other, claims, told)

    def check_weaving(self, book, one, other, claims, lag):
        found = book.weaving(one, other)
        self.assertIs(type(found), Weaving)
        self.assertEqual((found.first, found.second, found.lag), (book.row(one), book.row(other), lag))
        right = []
        for chain in chains(claims, one, other):
            if sum(way.lag for way in chain) == lag:
                total = Weaving.still(book.row(one))
                for way in chain:
                    total = total.then(way)
                right.append(total)
        self.assertIn(found, right)
        self.assertEqual(book.weaving(one, other), found)

    def test_drawn_books(self):
        several = told = apart = 0
        for book, names, _, claims in drawn_books(39, 60):
            self.judged(book, names, claims)
            self.assertEqual((book.names(), book.claims()), (names, claims))
            for one in names:
                for other in names:
                    several += len(chains(claims, one, other)) > 1
                    told += book.low(one, other) > 0
                    apart += book.are_apart(one, other)
        for many in (several, told, apart):
            self.assertGreater(many, 40)

    def told_book(self, births, ways, lots=()):
        """A book of rows with one bar each, weavings of some, and lots."""
        book = Book()
        for name, birth in births.items():
            book.add(name, endless(5, [birth]))
        for one, other, more in ways:
            self.assertIs(book.offer_weaving(one, other, woven(book.row(one), book.row(other), more)), True)
        for one, other, lag in lots:
            self.assertIs(book.offer_lonely(one, other, lag, "first", [0]), True)
        return book

    def test_from_a_name_to_itself(self):
        book = self.told_book({"a": 0, "b": 3}, [("a", "a", 2), ("a", "b", 0)])
        for name in ("a", "b"):
            self.assertEqual(book.high(name, name), 0)
            self.assertEqual(book.weaving(name, name), Weaving.still(book.row(name)))
            self.assertEqual(book.low(name, name), 0)
            self.assertIs(book.are_apart(name, name), False)

    def test_chains_in_both_directions(self):
        book = self.told_book({"a": 0, "b": 2, "c": 5, "d": 9}, [("b", "a", 0), ("b", "c", 0), ("d", "c", 1)])
        self.assertEqual([book.high("a", name) for name in "abcd"], [0, 2, 5, 10])
        self.assertEqual([book.high(name, "a") for name in "abcd"], [0, 2, 5, 10])
        self.assertEqual([book.high("d", name) for name in "abcd"], [10, 8, 5, 0])
        self.judged(book, "abcd", book.claims())

    def test_several_weavings_between_two_names(self):
        births = {"a": 0, "b": 1}
        for ways in ([3, 0, 2], [0, 3], [3, 2], [1, 1]):
            told = [("a", "b", more) if at % 2 else ("b", "a", more) for at, more in enumerate(ways)]
            book = self.told_book(births, told)
            self.assertEqual(book.high("a", "b"), 1 + min(ways))
            self.judged(book, "ab", book.claims())

    def test_a_longer_chain_with_a_lesser_sum(self):
        book = self.told_book(
            {"a": 0, "b": 1, "c": 2, "d": 3},
            [("a", "d", 5), ("a", "b", 0), ("b", "c", 0), ("c", "d", 0), ("a", "c", 4)],
        )
        self.assertEqual(book.high("a", "d"), 3)
        self.judged(book, "abcd", book.claims())

    def test_weavings_of_lag_0_in_a_ring(self):
        book = self.told_book({"a": 4, "b": 4, "c": 4}, [("a", "b", 0), ("b", "c", 0), ("c", "a", 0), ("c", "b", 0)])
        self.judged(book, "abc", book.claims())

    def test_low(self):
        births = {"a": 0, "b": 1, "c": 9, "d": 10, "e": 20}
        book = self.told_book(births, [("a", "b", 0), ("c", "d", 0)], [("b", "c", 7)])
        # The lot tells 8 of b and c, and less of the names that are near to them.
        told = {("b", "c"): 8, ("a", "c"): 7, ("b", "d"): 7, ("a", "d"): 6, ("a", "b"): 0, ("c", "d"): 0, ("a", "e"): 0}
        for (one, other), lag in told.items():
            self.assertEqual(book.low(one, other), lag)
            self.assertEqual(book.low(other, one), lag)
        book.offer_lonely("d", "a", 2, "second", [0])
        self.assertEqual(book.low("a", "d"), 6)
        book.offer_lonely("d", "a", 9, "second", [0])
        self.assertEqual([book.low("a", "d"), book.low("b", "c"), book.low("c", "a")], [10, 8, 9])
        self.judged(book, "abcd", book.claims())

    def test_low_without_chains(self):
        book = self.told_book({"a": 0, "b": 5, "c": 9}, [], [("a", "b", 3)])
        self.assertEqual([book.low("a", "b"), book.low("b", "a"), book.low("a", "c"), book.low("a", "a")], [4, 4, 0, 0])

    def test_apart(self):
        book = Book()
        for name, births in (("a", [0, 1]), ("b", [2, 3]), ("c", [4]), ("d", [5]), ("e", [6])):
            book.add(name, endless(5, births))
        self.assertIs(book.are_apart("b", "c"), False)
        self.assertIs(book.offer_apart("b", "c", "first", [0, 1]), True)
        self.assertIs(book.are_apart("a", "c"), False)
        book.offer_weaving("a", "b", woven(book.row("a"), book.row("b")))
        book.offer_weaving("d", "c", woven(book.row("d"), book.row("c")))
        apart = {(one, other) for one in "abcde" for other in "abcde" if book.are_apart(one, other)}
        told = {(one, other) for one in "ab" for other in "cd"}
        self.assertEqual(apart, told | {(other, one) for one, other in told})

    def test_no_chain(self):
        book = self.told_book({"a": 0, "b": 1, "c": 2}, [("a", "b", 0)], [("a", "c", 0)])
        self.assertIsNone(book.high("a", "c"))
        for one, other in (("a", "c"), ("c", "a"), ("b", "c"), ("c", "b")):
            with self.assertRaises(NoChain):
                book.weaving(one, other)

    def test_rows_of_other_last_times(self):
        book = Book()
        lasts = (9, 3, 14, 5)
        for name, last in zip("abcd", lasts):
            book.add(name, row_of_bars(3, last, [(1, None), (0, 2)]))
        for one, other in ("ab", "cb", "cd"):
            weaving = weave(
                book.row(one), book.row(other), frame(book.row(one)), frame(book.row(other)), [(0, 0), (1, 1)], lag=1,
            )
            self.assertIs(book.offer_weaving(one, other, weaving), True)
        self.judged(book, "abcd", book.claims())

    def test_mixing_weavings(self):
        # The maps do not commute, so that the order of them counts.
        row = endless(5, [0, 0], 0)
        book = Book()
        for name in "abcd":
            book.add(name, row)
        for (one, other), there, back in (
            ("ab", [[1, 1], [0, 1]], [[1, 4], [0, 1]]), ("cb", [[2, 0], [1, 1]], [[3, 0], [2, 1]]),
            ("cd", [[0, 1], [1, 0]], [[0, 1], [1, 0]]),
        ):
            weaving = Weaving(LagMap(row, row, 0, [Matrix(5, 2, there)]), LagMap(row, row, 0, [Matrix(5, 2, back)]))
            self.assertIs(book.offer_weaving(one, other, weaving), True)
        self.judged(book, "abcd", book.claims())


class GreatestTest(unittest.TestCase):
    def test_many_rows_and_claims(self):
        start = time.monotonic()
        names = ["abcdefghij"[at % 10] * (at // 10 + 1) for at in range(40)]
        book = Book()
        for at, name in enumerate(names):
            book.add(name, endless(5, [at, at // 2, 0], 40))
        for at in range(39):
            weaving = woven(book.row(names[at]), book.row(names[at + 1]))
            self.assertIs(book.offer_weaving(names[at], names[at + 1], weaving), True)
        for at in range(31):
            more = woven(book.row(names[at]), book.row(names[at + 9]), 1)
            self.assertIs(book.offer_weaving(names[at + 9], names[at], more.turned()), True)
        for at in range(30):
            self.assertIs(book.offer_lonely(names[at], names[at + 10], 4, "second", [2]), True)
        self.assertEqual((len(book.names()), len(book.claims())), (40, 100))
        for one in names[::3]:
            for other in names[::4]:
                self.assertEqual(book.high(one, other), abs(names.index(one) - names.index(other)))
                self.assertLessEqual(book.low(one, other), book.high(one, other))
                self.assertIs(book.are_apart(one, other), False)
        self.assertEqual(book.weaving(names[0], names[39]).lag, 39)
        self.assertEqual(book.weaving(names[39], names[0]).lag, 39)
        self.assertLess(time.monotonic() - start, 30)

    def test_greatest_rows(self):
        chance = random.Random(40)
        start = time.monotonic()
        steps = [any_matrix(chance, 97, 40, 38) * any_matrix(chance, 97, 38, 40) for _ in range(40)]
        row = Row(97, [40] * 41, steps)
        book = Book()
        book.add("a", row)
        book.add("b", row)
        book.add("none", row_of_bars(97, 40, []))
        told = bars(row)
        still, lasting = Weaving.still(row), [place for place, bar in enumerate(told) if bar[1] is None]
        for _ in range(10):
            self.assertIs(book.offer_weaving("a", "b", still), True)
            self.assertIs(book.offer_apart("a", "none", "first", lasting), len(lasting) > 0)
        for lag in range(80):
            self.assertIs(book.offer_lonely("a", "b", lag, "first", [0]), False)
        self.assertEqual(book.weaving("a", "b"), Weaving.still(row))
        self.assertLess(time.monotonic() - start, 30)


if __name__ == "__main__":
    unittest.main()
