"""Points [39] and [40]: the texts of matrices, rows, weavings and books, letter by letter."""

import random
import unittest

from barswoven.bars import row_of_bars
from barswoven.book import Book
from barswoven.comparing import compare
from barswoven.lagmap import LagMap
from barswoven.matrix import Matrix
from barswoven.row import Row
from barswoven.weaving import Weaving
from barswoven.writing import write_book, write_matrix, write_row, write_weaving

from booked import any_book
from drawn import BASES, any_matrix, any_row


def matrix_by_hand(matrix):
    text = str(len(matrix.rows)) + "x" + str(matrix.width) + ":"
    for at, row in enumerate(matrix.rows):
        for place, entry in enumerate(row):
            text += ("," if at or place else "") + str(entry)
    return text


def row_by_hand(row):
    return " ".join((str(row.base), ",".join(map(str, row.dims)), ";".join(map(matrix_by_hand, row.steps))))


def weaving_by_hand(weaving):
    parts = [";".join(map(matrix_by_hand, one.parts)) for one in (weaving.forth, weaving.back)]
    return str(weaving.lag) + " " + parts[0] + " " + parts[1]


def book_by_hand(names, rows, claims):
    lines = ["row " + name + " " + row_by_hand(row) for name, row in zip(names, rows)]
    for word, *told in claims:
        told = [",".join(map(str, one)) if isinstance(one, tuple) else one for one in told]
        told = [weaving_by_hand(one) if isinstance(one, Weaving) else str(one) for one in told]
        lines.append(" ".join((word, *told)))
    return "\n".join(lines)


class MatrixTextTest(unittest.TestCase):
    def test_told_texts(self):
        for matrix, text in (
            (Matrix.identity(5, 2), "2x2:1,0,0,1"), (Matrix.zero(5, 0, 3), "0x3:"), (Matrix.zero(5, 3, 0), "3x0:"),
            (Matrix.zero(5, 0, 0), "0x0:"), (Matrix(97, 3, [[96, 0, 10]]), "1x3:96,0,10"),
            (Matrix(97, 1, [[1], [2]]), "2x1:1,2"), (Matrix.identity(2, 1), "1x1:1"),
        ):
            self.assertEqual(write_matrix(matrix), text)

    def test_drawn_texts(self):
        chance = random.Random(39)
        for base in BASES:
            for height in range(5):
                for width in range(5):
                    matrix = any_matrix(chance, base, height, width)
                    self.assertEqual(write_matrix(matrix), matrix_by_hand(matrix))

    def test_great_matrices(self):
        for height, width in ((40, 40), (40, 0), (0, 40), (12, 1)):
            text = write_matrix(Matrix.zero(3, height, width))
            self.assertEqual(text, f"{height}x{width}:" + ",".join("0" * (height * width)))


class RowTextTest(unittest.TestCase):
    def test_told_texts(self):
        for row, text in (
            (Row(5, [2, 1], [Matrix(5, 2, [[1, 2]])]), "5 2,1 1x2:1,2"), (Row(97, [3], []), "97 3 "),
            (Row(2, [0], []), "2 0 "), (Row(2, [0, 0], [Matrix.zero(2, 0, 0)]), "2 0,0 0x0:"),
            (Row(3, [1, 0, 2], [Matrix.zero(3, 0, 1), Matrix.zero(3, 2, 0)]), "3 1,0,2 0x1:;2x0:"),
            (row_of_bars(7, 2, [(0, 1), (0, None)]), "7 2,1,1 1x2:0,1;1x1:1"), (Row(5, [40], []), "5 40 "),
        ):
            self.assertEqual(write_row(row), text)

    def test_drawn_texts(self):
        chance = random.Random(40)
        for base in BASES:
            for _ in range(20):
                row = any_row(chance, base, chance.randrange(6), 3)
                self.assertEqual(write_row(row), row_by_hand(row))


class WeavingTextTest(unittest.TestCase):
    def test_told_texts(self):
        row = Row(5, [2], [])
        there, back = Matrix(5, 2, [[1, 1], [0, 1]]), Matrix(5, 2, [[1, 4], [0, 1]])
        weaving = Weaving(LagMap(row, row, 0, [there]), LagMap(row, row, 0, [back]))
        self.assertEqual(write_weaving(weaving), "0 2x2:1,1,0,1 2x2:1,4,0,1")
        first, second = row_of_bars(5, 3, [(0, None)]), row_of_bars(5, 2, [(1, None)])
        self.assertEqual(
            write_weaving(compare(first, second)[1]), "1 1x1:1;1x1:1;1x1:1;1x1:1 1x0:;1x1:1;1x1:1;1x1:1",
        )
        none = Weaving.still(Row(5, [0], []))
        self.assertEqual(write_weaving(none), "0 0x0: 0x0:")
        self.assertEqual(write_weaving(none.slowed(100)), "100 0x0: 0x0:")

    def test_drawn_texts(self):
        chance = random.Random(41)
        for _ in range(30):
            for claim in any_book(chance, 5, 4, 6)[3]:
                if claim[0] == "woven":
                    self.assertEqual(write_weaving(claim[3]), weaving_by_hand(claim[3]))
                    self.assertEqual(write_weaving(claim[3].turned()), weaving_by_hand(claim[3].turned()))


class BookTextTest(unittest.TestCase):
    def test_told_texts(self):
        book = Book()
        self.assertEqual(write_book(book), "")
        book.add("b", row_of_bars(5, 1, [(0, None), (1, None)]))
        self.assertEqual(write_book(book), "row b 5 1,2 2x1:1,0")
        book.add("a", Row(5, [1], []))
        told = "row b 5 1,2 2x1:1,0\nrow a 5 1 "
        self.assertEqual(write_book(book), told)
        book.offer_lonely("b", "a", 3, "first", [0, 1])
        told += "\nlonely b a 3 first 0,1"
        self.assertEqual(write_book(book), told)
        book.offer_weaving("a", "a", Weaving.still(book.row("a")))
        told += "\nwoven a a 0 1x1:1 1x1:1"
        self.assertEqual(write_book(book), told)
        book.offer_apart("a", "b", "second", (0, 1))
        told += "\napart a b second 0,1"
        self.assertEqual(write_book(book), told)
        book.offer_lonely("a", "b", 100, "second", [0, 1])
        self.assertEqual(write_book(book), told + "\nlonely a b 100 second 0,1")

    def test_a_row_added_behind_a_claim(self):
        book = Book()
        book.add("a", Row(5, [0], []))
        book.offer_weaving("a", "a", Weaving.still(book.row("a")))
        book.add("b", Row(7, [0], []))
        self.assertEqual(write_book(book), "row a 5 0 \nrow b 7 0 \nwoven a a 0 0x0: 0x0:")

    def test_drawn_texts(self):
        chance = random.Random(42)
        seen = {"woven": 0, "lonely": 0, "apart": 0}
        for _ in range(60):
            book, names, rows, claims = any_book(chance, chance.choice(BASES), 6, 9)
            self.assertEqual(write_book(book), book_by_hand(names, rows, claims))
            self.assertEqual(write_book(book), write_book(book))
            for claim in claims:
                seen[claim[0]] += 1
        self.assertGreater(min(seen.values()), 5)


if __name__ == "__main__":
    unittest.main()
