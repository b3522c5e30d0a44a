"""Points [33] and [34]: makers and fillers, and the bars of holes and of parts."""

import random
import time
import unittest

from barswoven.growth import Growth
from barswoven.reducing import hole_bars, part_bars, partners

from drawn import by_hand, is_alive
from grown import (
    all_entries, any_entries, faces_by_hand, in_order, plane, rank_of_holes, turned_band, with_faces,
)

BASES = (2, 3, 53)


def partners_by_hand(entries, base):
    """The pairs after a plain reduction of all borders, column by column from the left to the right."""
    pieces = [piece for piece, _ in in_order(entries)]
    columns, lows = [], {}
    for piece in pieces:
        column = [0] * len(pieces)
        for sign, face in faces_by_hand(piece):
            column[pieces.index(face)] = sign % base
        while any(column):
            low = max(place for place, entry in enumerate(column) if entry)
            if low not in lows:
                lows[low] = len(columns)
                break
            other = columns[lows[low]]
            factor = next(number for number in range(base) if (column[low] - number * other[low]) % base == 0)
            column = [(one - factor * two) % base for one, two in zip(column, other)]
        columns.append(column)
    return [
        (piece, pieces[lows[place]] if place in lows else None)
        for place, piece in enumerate(pieces) if not any(columns[place])
    ]


def parts_by_hand(entries):
    """The bars of the parts, after point [34]."""
    parts, found = [], []
    for piece, height in in_order(entries):
        if len(piece) == 1:
            parts.append([(height, piece[0])])
        if len(piece) == 2:
            one, other = [next(part for part in parts if point in [p for _, p in part]) for point in piece]
            if one is not other:
                found.append((max(min(one), min(other))[0], height))
                parts = [part for part in parts if part is not one and part is not other] + [one + other]
    found += [(min(part)[0], None) for part in parts]
    return sorted([bar for bar in found if bar[0] != bar[1]], key=by_hand)


class PartnersTest(unittest.TestCase):
    def test_plain_reduction(self):
        for entries in all_entries(33, 40):
            growth = Growth(entries)
            for base in BASES:
                found = partners(growth, base=base)
                self.assertIs(type(found), list)
                self.assertEqual(found, partners_by_hand(entries, base))
                self.assertEqual(partners(growth, base=base), found)
                found.append("more")
                self.assertNotIn("more", partners(growth, base=base))

    def test_each_piece_once(self):
        for entries in all_entries(34, 20):
            order = [piece for piece, _ in in_order(entries)]
            for base in BASES:
                found = partners(Growth(entries), base=base)
                makers = [maker for maker, _ in found]
                self.assertEqual(makers, sorted(makers, key=order.index))
                fillers = [filler for _, filler in found if filler is not None]
                self.assertEqual(sorted(makers + fillers), sorted(order))
                for maker, filler in found:
                    if filler is not None:
                        self.assertEqual(len(filler), len(maker) + 1)
                        self.assertLess(order.index(maker), order.index(filler))

    def test_told_partners(self):
        growth = Growth([((4,), 0), ((2,), 1), ((2, 4), 1), ((9,), 5)])
        self.assertEqual(partners(growth, base=2), [((4,), None), ((2,), (2, 4)), ((9,), None)])
        self.assertEqual(partners(Growth([]), base=2), [])
        self.assertEqual(partners(Growth([((7,), 3)]), base=97), [((7,), None)])

    def test_what_the_base_tells(self):
        for told in (turned_band(), plane()):
            growth = Growth(told)
            self.assertNotEqual(partners(growth, base=2), partners(growth, base=3))
            self.assertEqual(partners(growth, base=3), partners(growth, base=53))
        # The plane has a hole of each degree over base 2 alone, and the side of the band dies over base 2 alone.
        for degree in (1, 2):
            self.assertEqual(hole_bars(Growth(plane()), degree, base=2)[-1:], [(degree, None)])
        for base in (3, 53):
            self.assertEqual([bar for bar in hole_bars(Growth(plane()), 1, base=base) if bar[1] is None], [])
            self.assertEqual(hole_bars(Growth(plane()), 2, base=base), [])
            self.assertIn((1, None), hole_bars(Growth(turned_band()), 1, base=base))
        self.assertNotIn((1, None), hole_bars(Growth(turned_band()), 1, base=2))

    def test_the_base_is_passed_by_keyword(self):
        growth = Growth([])
        with self.assertRaises(TypeError):
            partners(growth, 2)
        with self.assertRaises(TypeError):
            hole_bars(growth, 0, 2)


class HoleBarsTest(unittest.TestCase):
    def test_ranks_of_cycles_up_to_borders(self):
        seen = 0
        for entries in all_entries(35, 25):
            growth = Growth(entries)
            for base in BASES:
                for degree in range(5):
                    found = hole_bars(growth, degree, base=base)
                    self.assertEqual(found, sorted(found, key=by_hand))
                    self.assertTrue(all(bar[0] != bar[1] for bar in found))
                    for end in range(growth.last + 1):
                        for start in range(end + 1):
                            told = rank_of_holes(entries, degree, start, end, base)
                            self.assertEqual(sum(bar[0] <= start and is_alive(bar, end) for bar in found), told)
                    seen += degree > 0 and len(found) > 0
        self.assertGreater(seen, 50)

    def test_heights_of_the_partners(self):
        for entries in all_entries(36, 20):
            growth, heights = Growth(entries), dict(entries)
            for base in BASES:
                pairs = partners_by_hand(entries, base)
                for degree in range(6):
                    told = [
                        (heights[maker], heights.get(filler)) for maker, filler in pairs
                        if len(maker) == degree + 1 and heights[maker] != heights.get(filler)
                    ]
                    found = hole_bars(growth, degree, base=base)
                    self.assertIs(type(found), list)
                    self.assertEqual(found, sorted(told, key=by_hand))
                    self.assertEqual(hole_bars(growth, degree, base=base), found)
                    found.append("more")
                    self.assertNotIn("more", hole_bars(growth, degree, base=base))

    def test_told_bars(self):
        hollow = [(piece, len(piece) - 1) for piece in with_faces([(0, 1, 2, 3)]) if len(piece) < 4]
        self.assertEqual(hole_bars(Growth(hollow), 0, base=2), [(0, 1), (0, 1), (0, 1), (0, None)])
        self.assertEqual(hole_bars(Growth(hollow), 1, base=2), [(1, 2), (1, 2), (1, 2)])
        self.assertEqual(hole_bars(Growth(hollow), 2, base=2), [(2, None)])
        full = hollow + [((0, 1, 2, 3), 9)]
        self.assertEqual(hole_bars(Growth(full), 2, base=2), [(2, 9)])
        self.assertEqual(hole_bars(Growth(full), 3, base=2), [])
        # All at once: what dies when it is born leaves no bar.
        flat = [(piece, 4) for piece in with_faces([(0, 1, 2, 3)])]
        found = [hole_bars(Growth(flat), degree, base=3) for degree in range(5)]
        self.assertEqual(found, [[(4, None)], [], [], [], []])


class PartBarsTest(unittest.TestCase):
    def test_joined_points(self):
        for entries in all_entries(37, 60):
            growth = Growth(entries)
            found = part_bars(growth)
            self.assertIs(type(found), list)
            self.assertEqual(found, parts_by_hand(entries))
            for base in BASES:
                self.assertEqual(found, hole_bars(growth, 0, base=base))
            self.assertEqual(part_bars(growth), found)
            found.append("more")
            self.assertNotIn("more", part_bars(growth))

    def test_told_parts(self):
        self.assertEqual(part_bars(Growth([])), [])
        points = [((9,), 2), ((3,), 0), ((5,), 4), ((1,), 4)]
        self.assertEqual(part_bars(Growth(points)), [(0, None), (2, None), (4, None), (4, None)])
        lines = points + [((5, 9), 6), ((1, 5), 4)]
        self.assertEqual(part_bars(Growth(lines)), [(0, None), (2, None), (4, 6)])
        joined = lines + [((3, 5), 7), ((3, 9), 8)]
        self.assertEqual(part_bars(Growth(joined)), [(0, None), (2, 7), (4, 6)])


class GreatestTest(unittest.TestCase):
    def test_many_pieces(self):
        chance = random.Random(38)
        start = time.monotonic()
        for points in (8, 10, 15, 40):
            entries = any_entries(chance, points, 120, 40)
            growth = Growth(entries)
            for base in BASES:
                self.assertEqual(partners(growth, base=base), partners_by_hand(entries, base))
                self.assertEqual(part_bars(growth), hole_bars(growth, 0, base=base))
                for degree in range(4):
                    self.assertEqual(hole_bars(growth, degree, base=base), hole_bars(growth, degree, base=base))
        self.assertLess(time.monotonic() - start, 30)

    def test_exactly_as_many_as_may_be(self):
        lines = with_faces([(one, other) for one in range(15) for other in range(one + 1, 15)])
        growth = Growth([(piece, (7 * place) % 5 + 10 * (len(piece) - 1)) for place, piece in enumerate(lines)])
        self.assertEqual(len(growth), 120)
        start = time.monotonic()
        found = partners(growth, base=97)
        self.assertEqual(len(hole_bars(growth, 1, base=97)), 91)
        self.assertLess(time.monotonic() - start, 5)
        self.assertEqual(partners(growth, base=97), found)


if __name__ == "__main__":
    unittest.main()
