"""Points [30] and [31]: pieces, faces, growths and borders."""

import random
import unittest

from barswoven.errors import InvalidGrowth
from barswoven.growth import Growth, faces
from barswoven.matrix import Matrix

from drawn import BASES
from grown import (
    amount_at, any_entries, border_of, drawn_entries, faces_by_hand, in_order, of_degree, plane, turned_band,
    with_faces,
)

SOLID = [(piece, 0) for piece in with_faces([(0, 1, 2, 3)])]


def drawn_growths(seed, times):
    for entries in drawn_entries(random.Random(seed), times):
        yield entries, Growth(entries)


class FacesTest(unittest.TestCase):
    def test_told_faces(self):
        self.assertEqual(faces((7,)), [])
        self.assertEqual(faces((3, 8)), [(1, (8,)), (-1, (3,))])
        self.assertEqual(faces((0, 5, 59)), [(1, (5, 59)), (-1, (0, 59)), (1, (0, 5))])
        self.assertEqual(
            faces((1, 2, 4, 8)), [(1, (2, 4, 8)), (-1, (1, 4, 8)), (1, (1, 2, 8)), (-1, (1, 2, 4))],
        )

    def test_each_list_is_a_new_one(self):
        for piece in ((7,), (3, 8)):
            found = faces(piece)
            found.append("more")
            self.assertNotIn("more", faces(piece))

    def test_drawn_faces(self):
        for entries in drawn_entries(random.Random(30), 10):
            for piece, _ in entries:
                self.assertEqual(faces(piece), faces_by_hand(piece))


class EntriesTest(unittest.TestCase):
    def test_order(self):
        told = [
            ((0,), 0), ((5,), 0), ((0, 5), 0), ((10,), 1), ((0, 10), 1), ((5, 10), 1), ((2,), 3), ((0, 5, 10), 3),
        ]
        self.assertEqual(list(Growth(told[::-1])), told)
        chance = random.Random(31)
        for entries, growth in drawn_growths(32, 60):
            self.assertEqual(list(growth), in_order(entries))
            mixed = list(entries)
            chance.shuffle(mixed)
            for again in (mixed, tuple(mixed), sorted(mixed), sorted(mixed, reverse=True)):
                self.assertEqual(list(Growth(again)), in_order(entries))
                self.assertIs(Growth(again) == growth, True)

    def test_length(self):
        for entries, growth in drawn_growths(33, 40):
            self.assertEqual(len(growth), len(entries))

    def test_iteration(self):
        for entries, growth in drawn_growths(34, 20):
            self.assertEqual([(piece, height) for piece, height in growth], in_order(entries))
            self.assertEqual(list(growth), list(growth))
            self.assertEqual(dict(growth), dict(entries))
            self.assertIs(type(growth.entries), tuple)
            for entry in growth:
                self.assertEqual((type(entry), type(entry[0])), (tuple, tuple))

    def test_membership(self):
        for entries, growth in drawn_growths(35, 20):
            told = {piece for piece, _ in entries}
            for piece in with_faces([(0, 1, 2, 3), (57, 58, 59)]):
                self.assertIs(piece in growth, piece in told)
            for piece in told:
                self.assertIs(piece in growth, True)

    def test_what_is_no_piece_is_not_in_it(self):
        growth = Growth(SOLID)
        for other in (
            (), (1, 0), (0, 0), (-1,), (60,), (0, 1, 2, 3, 4), ((0,), 0), ((0,),), ("0",), (None,), 0, 1, -1, None, "",
            "0", "abc", [0], [0, 1], ([0],), {}, {0: 1}, {0}, growth, object(), Growth, b"",
        ):
            self.assertIs(other in growth, False)
            self.assertIs(other in Growth([]), False)
            self.assertIs(other not in growth, True)

    def test_equality(self):
        one = Growth([((0,), 1), ((1,), 2)])
        self.assertIs(one == Growth([((1,), 2), ((0,), 1)]), True)
        self.assertIs(one != Growth([((1,), 2), ((0,), 1)]), False)
        for other in ([((0,), 1)], [((0,), 1), ((1,), 3)], [((0,), 1), ((2,), 2)], [], [((0,), 2), ((1,), 1)]):
            self.assertIs(one == Growth(other), False)
            self.assertIs(one != Growth(other), True)
            self.assertIs(Growth(other) == one, False)

    def test_objects_of_other_kinds(self):
        growth = Growth([((0,), 1)])

        class Alike:
            entries = growth.entries
            last = 1

        for other in (None, 0, "", (), [], {}, [((0,), 1)], (((0,), 1),), object(), Growth, Alike()):
            self.assertIs(growth == other, False)
            self.assertIs(other == growth, False)
            self.assertIs(growth != other, True)

    def test_the_list_is_changed_afterwards(self):
        entries = [((0,), 1), ((1,), 2), ((0, 1), 4)]
        growth = Growth(entries)
        entries.append(((9,), 9))
        entries[0] = ((0,), 0)
        del entries[2]
        self.assertEqual(list(growth), [((0,), 1), ((1,), 2), ((0, 1), 4)])
        self.assertEqual((len(growth), growth.last), (3, 4))

    def test_the_list_stays(self):
        for entries in drawn_entries(random.Random(36), 10):
            kept = list(entries)
            Growth(entries)
            self.assertEqual(entries, kept)

    def test_by_keyword(self):
        self.assertEqual(list(Growth(entries=[((0,), 0)])), [((0,), 0)])


class WrongInputTest(unittest.TestCase):
    def refused(self, entries):
        chance = random.Random(37)
        mixed = list(entries)
        chance.shuffle(mixed)
        for told in (entries, entries[::-1], tuple(entries), mixed):
            with self.assertRaises(InvalidGrowth):
                Growth(told)

    def test_a_piece_twice(self):
        self.refused([((0,), 0), ((0,), 0)])
        self.refused([((0,), 0), ((0,), 1)])
        for entry in SOLID:
            self.refused(SOLID + [entry])
            self.refused(SOLID + [(entry[0], 5)])

    def test_a_face_left_out(self):
        for place, (piece, _) in enumerate(SOLID):
            if len(piece) < 4:
                self.refused(SOLID[:place] + SOLID[place + 1:])
        self.refused([((0, 1), 0)])
        self.refused([((0,), 0), ((0, 1), 0)])
        self.refused([((1,), 0), ((0, 1), 0)])

    def test_a_face_later_than_its_piece(self):
        for place, (piece, _) in enumerate(SOLID):
            if len(piece) < 4:
                self.refused(SOLID[:place] + [(piece, 1)] + SOLID[place + 1:])
        for entries in drawn_entries(random.Random(38), 20):
            heights = dict(entries)
            for piece, height in entries:
                for face in [face for _, face in faces_by_hand(piece)]:
                    self.refused([entry for entry in entries if entry[0] != face] + [(face, height + 1)])
                    kept = [entry for entry in entries if entry[0] != piece]
                    if heights[face]:
                        self.refused(kept + [(piece, heights[face] - 1)])

    def test_heights_that_are_equal_or_later(self):
        self.assertEqual(Growth([((0,), 3), ((1,), 3), ((0, 1), 3)]).last, 3)
        self.assertEqual(Growth([((0,), 3), ((1,), 3), ((0, 1), 4)]).last, 4)
        self.refused([((0,), 3), ((1,), 3), ((0, 1), 2)])

    def test_a_negative_height(self):
        for height in (-1, -2, -(10 ** 19)):
            self.refused([((0,), height)])
            self.refused([((0,), 0), ((1,), height)])
            self.refused([((0,), height), ((1,), height), ((0, 1), height)])
            self.refused([((0,), height), ((1,), height), ((0, 1), 0)])

    def test_what_is_no_piece(self):
        points = [((point,), 0) for point in range(6)]
        for piece in (
            (), (1, 0), (0, 0), (2, 1, 0), (0, 2, 1), (1, 1, 2), (1, 2, 2), (-1,), (60,), (-1, 0), (0, 60),
            (-(10 ** 19),), (10 ** 19,), (0, 1, 3, 2), (0, 1, 2, 2),
        ):
            self.refused([(piece, 0)])
            self.refused(points + [(piece, 0)])
            self.refused(points + [((-1,), 0), ((60,), 0), (piece, 0)])
        lines = [(piece, 0) for piece in with_faces([(0, 1, 2, 3)])]
        self.refused(lines + [((3, 2, 1, 0), 0)])
        self.refused(lines + [((1, 0), 0)])

    def test_five_points_with_all_their_faces(self):
        below = [(piece, 0) for piece in with_faces([(0, 1, 2, 3, 4)]) if len(piece) < 5]
        self.assertEqual(len(Growth(below)), 30)
        self.refused(below + [((0, 1, 2, 3, 4), 0)])
        self.refused(below + [((0, 1, 2, 3, 4), 7)])

    def test_points_with_their_lines_out_of_order(self):
        self.refused([((0,), 0), ((1,), 0), ((1, 0), 0)])
        self.refused([((0,), 0), ((0, 0), 0)])

    def test_least_and_greatest_points(self):
        self.assertEqual(len(Growth([((0,), 0), ((59,), 0), ((0, 59), 0)])), 3)


class LookTest(unittest.TestCase):
    def test_last(self):
        self.assertEqual(Growth([]).last, 0)
        self.assertEqual(Growth([((4,), 0)]).last, 0)
        self.assertEqual(Growth([((4,), 40), ((3,), 7)]).last, 40)
        for entries, growth in drawn_growths(39, 20):
            self.assertEqual(growth.last, max((height for _, height in entries), default=0))

    def test_height_of(self):
        for entries, growth in drawn_growths(40, 20):
            for piece, height in entries:
                self.assertEqual(growth.height_of(piece), height)

    def test_height_of_what_is_not_there(self):
        for growth in (Growth([]), Growth(SOLID)):
            for piece in ((), (1, 0), (4,), (0, 4), (60,), (-1,), (0, 1, 2, 3, 4), (0, 1, 2, 4), (10 ** 19,)):
                with self.assertRaises(InvalidGrowth):
                    growth.height_of(piece)

    def test_pieces(self):
        for entries, growth in drawn_growths(41, 30):
            for degree in range(6):
                found = growth.pieces(degree)
                self.assertEqual(found, [piece for piece, _ in of_degree(entries, degree)])
                found.append("more")
                self.assertNotIn("more", growth.pieces(degree))
        self.assertEqual(Growth(SOLID).pieces(2), [(0, 1, 2), (0, 1, 3), (0, 2, 3), (1, 2, 3)])

    def test_amount(self):
        for entries, growth in drawn_growths(42, 30):
            for degree in range(5):
                for time in (-1000, *range(-1, growth.last + 4), 1000):
                    self.assertEqual(growth.amount(degree, time), amount_at(entries, degree, time))

    def test_the_growth_without_pieces(self):
        growth = Growth([])
        self.assertEqual((len(growth), list(growth), growth.last), (0, [], 0))
        self.assertEqual(growth, Growth(()))
        for degree in range(5):
            self.assertEqual(growth.pieces(degree), [])
            for time in (-1, 0, 3):
                self.assertEqual(growth.amount(degree, time), 0)
                self.assertEqual(growth.borders(degree, time, 5), Matrix.zero(5, 0, 0))


class BordersTest(unittest.TestCase):
    def test_columns(self):
        for base in BASES:
            for entries, growth in drawn_growths(43 + base, 12):
                for degree in range(5):
                    below = len(of_degree(entries, degree - 1)) if degree else 0
                    for time in (-1000, *range(-1, growth.last + 3), 1000):
                        found = growth.borders(degree, time, base)
                        there = [piece for piece, height in of_degree(entries, degree) if height <= time]
                        self.assertEqual((found.base, found.height, found.width), (base, below, len(there)))
                        told = [tuple(border_of(entries, piece, base)) if degree else () for piece in there]
                        self.assertEqual(found.columns(), told)

    def test_told_borders(self):
        growth = Growth([((0,), 0), ((1,), 0), ((2,), 1), ((0, 1), 2), ((1, 2), 2), ((0, 2), 3), ((0, 1, 2), 4)])
        self.assertEqual(growth.borders(1, 2, 5).rows, ((4, 0), (1, 4), (0, 1)))
        self.assertEqual(growth.borders(1, 9, 5).rows, ((4, 0, 4), (1, 4, 0), (0, 1, 1)))
        self.assertEqual(growth.borders(1, 1, 5), Matrix.zero(5, 3, 0))
        self.assertEqual(growth.borders(2, 4, 5).rows, ((1,), (1,), (4,)))
        self.assertEqual(growth.borders(2, 3, 5), Matrix.zero(5, 3, 0))
        self.assertEqual(growth.borders(0, 0, 5), Matrix.zero(5, 0, 2))
        self.assertEqual(growth.borders(3, 4, 5), Matrix.zero(5, 1, 0))
        self.assertEqual(growth.borders(4, 4, 5), Matrix.zero(5, 0, 0))
        self.assertEqual(growth.borders(1, 9, 2).rows, ((1, 0, 1), (1, 1, 0), (0, 1, 1)))

    def test_the_border_of_a_border(self):
        for base in BASES:
            told = [Growth(SOLID), Growth(plane()), Growth(turned_band())]
            for growth in told + [growth for _, growth in drawn_growths(44, 12)]:
                for degree in (1, 2, 3):
                    for time in range(growth.last + 2):
                        found = growth.borders(degree, time, base)
                        self.assertIs((growth.borders(degree - 1, growth.last, base) * found).is_zero, True)

    def test_many_pieces(self):
        growth = Growth(any_entries(random.Random(45), 40, 120, 40))
        self.assertEqual(len(growth), 120)
        for degree in range(4):
            self.assertEqual(growth.borders(degree, 40, 97).width, len(growth.pieces(degree)))


if __name__ == "__main__":
    unittest.main()
