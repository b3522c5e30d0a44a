"""Points [39] and [40]: reading rows, weavings and books, and the line of the first fault."""

import random
import re
import time
import unittest

from barswoven.bars import row_of_bars
from barswoven.book import Book
from barswoven.comparing import compare
from barswoven.errors import InvalidText, WovenError
from barswoven.lagmap import LagMap
from barswoven.matrix import Matrix
from barswoven.reading import read_book, read_row, read_weaving
from barswoven.row import Row
from barswoven.weaving import Weaving
from barswoven.writing import write_book, write_row, write_weaving

from booked import any_book, any_rows
from drawn import BASES, any_matrix, any_row

NUMBER = "(?:0|[1-9][0-9]{0,5})"
NUMBERS = f"{NUMBER}(?:,{NUMBER})*"
MATRIX = f"{NUMBER}x{NUMBER}:(?:{NUMBERS})?"
MATRICES = f"{MATRIX}(?:;{MATRIX})*"
NAME = "[a-z]{1,12}"
LINES = {
    "row": f"row ({NAME}) ({NUMBER}) ({NUMBERS}) ((?:{MATRICES})?)",
    "woven": f"woven ({NAME}) ({NAME}) ({NUMBER}) ({MATRICES}) ({MATRICES})",
    "lonely": f"lonely ({NAME}) ({NAME}) ({NUMBER}) (first|second) ({NUMBERS})",
    "apart": f"apart ({NAME}) ({NAME}) (first|second) ({NUMBERS})",
}
SIGNS = "0123456789abz xX:;,.-+_\n\r\t\u0660\u00b2\uff11A"


def numbers_told(text):
    return [int(part) for part in text.split(",")] if text else []


def matrices_told(text, base):
    found = []
    for part in text.split(";") if text else []:
        size, entries = part.split(":")
        height, width = map(int, size.split("x"))
        entries = numbers_told(entries)
        if len(entries) != height * width:
            raise WovenError("another number of entries")
        found.append(Matrix(base, width, [entries[at * width:at * width + width] for at in range(height)]))
    return found


def row_told(base, dims, steps):
    return Row(int(base), numbers_told(dims), matrices_told(steps, int(base)))


def weaving_told(first, second, lag, forth, back):
    return Weaving(
        LagMap(first, second, int(lag), matrices_told(forth, first.base)),
        LagMap(second, first, int(lag), matrices_told(back, first.base)),
    )


def is_line_valid(book, line):
    """The rules of point [40] for the next line, by patterns; a valid line is taken into the book."""
    found = {word: re.fullmatch(pattern, line, re.ASCII) for word, pattern in LINES.items()}
    try:
        for word, match in found.items():
            if match and word == "row":
                if book.claims():
                    return False
                book.add(match[1], row_told(*match.groups()[1:]))
                return True
            if match and word == "woven":
                first, second, *told = match.groups()
                weaving = weaving_told(book.row(first), book.row(second), *told)
                return book.offer_weaving(first, second, weaving)
            if match and word == "lonely":
                first, second, lag, side, places = match.groups()
                return book.offer_lonely(first, second, int(lag), side, numbers_told(places))
            if match and word == "apart":
                first, second, side, places = match.groups()
                return book.offer_apart(first, second, side, numbers_told(places))
    except WovenError:
        return False
    return False


def fault_told(text):
    """The number of the first line that is not valid, None if there is none."""
    book = Book()
    for number, line in enumerate(text.split("\n") if text else [], 1):
        if not is_line_valid(book, line):
            return number
    return None


def changed(text, at, sign):
    yield text[:at] + sign + text[at:]
    if at < len(text):
        yield text[:at] + sign + text[at + 1:]


def all_changes(text):
    """The text with a character put in, left out or exchanged at any place, and cut off at any place."""
    for at in range(len(text) + 1):
        yield text[:at]
        yield text[:at] + text[at + 1:]
        yield text[:at] + text[at:at + 2][::-1] + text[at + 2:]
        for sign in SIGNS:
            yield from changed(text, at, sign)


class RowTest(unittest.TestCase):
    def judged(self, text):
        match = re.fullmatch(f"({NUMBER}) ({NUMBERS}) ((?:{MATRICES})?)", text, re.ASCII)
        try:
            told = row_told(*match.groups()) if match else None
        except WovenError:
            told = None
        if told is None:
            with self.assertRaises(InvalidText, msg=repr(text)) as caught:
                read_row(text)
            self.assertEqual(caught.exception.line, 1)
        else:
            found = read_row(text)
            self.assertIs(type(found), Row)
            self.assertEqual((found, write_row(found)), (told, text))
        return told is not None

    def test_what_is_written(self):
        chance = random.Random(39)
        for base in BASES:
            for _ in range(20):
                row = any_row(chance, base, chance.randrange(6), 4)
                self.assertEqual(read_row(write_row(row)), row)
        for row in (Row(2, [0], []), Row(2, [40], []), Row(97, [0] * 41, [Matrix.zero(97, 0, 0)] * 40)):
            self.assertEqual(read_row(write_row(row)), row)
            self.assertEqual(read_row(write_row(row.later(100))), row.later(100))

    def test_changed_texts(self):
        chance = random.Random(40)
        valid = 0
        for text in ("5 2,1 1x2:1,2", "97 3 ", "2 0 ", "2 0,0 0x0:", "3 1,0,2 0x1:;2x0:", "11 1,1,1 1x1:10;1x1:0"):
            self.assertTrue(self.judged(text))
            for other in all_changes(text):
                valid += self.judged(other)
        for _ in range(6):
            text = write_row(any_row(chance, chance.choice(BASES), chance.randrange(4), 3))
            for other in all_changes(text):
                valid += self.judged(other)
        self.assertGreater(valid, 200)

    def test_told_faults(self):
        for text in (
            "", " ", "\n", "5", "5 ", "5  ", "5 2", "5 2  ", " 5 2 ", "5 2 \n", "5 2\n", "5 2 \r", "5\t2 ", "05 2 ",
            "5 02 ", "+5 2 ", "5 -2 ", "5 2.0 ", "5 2,1 1x2:1", "5 2,1 1x2:1,2,3", "5 2,1 1x2:1,5", "5 2,1 1x2:1,-1",
            "5 2,1 1x2:1,02", "5 2,1 01x2:1,2", "5 2,1 1x2", "5 2,1 12:1,2", "5 2,1 1x2:", "5 2,1 1x2:1,2;",
            "5 2,1 ;1x2:1,2", "5 2,1 1x2:1,2;1x1:1", "5 2,1 2x1:1,2", "5 2,1 1X2:1,2", "5 2,1 1x2:1;2", "5 2;1 1x2:1,2",
            "4 2 ", "0 2 ", "1 2 ", "101 2 ", "5 2 2x2:1,0,0,1", "5 2,2 ", "5 2,1, 1x2:1,2", "5 ,2,1 1x2:1,2",
            "5  2,1 1x2:1,2", "5 2,1  1x2:1,2", "5 2,1 1x2:1,2 ", "5 2,1 1x2:1, 2", "5 2,1 1x2: 1,2", "5 2,1 1x2:,1,2",
            "5 2,1 1x2:1,2,", "5 2,1 1x2::1,2", "5 2,1 1x2:1,2:", "5 2,1 1x2x1:1,2", "\u0665 2 ", "5 \uff12 ",
            "5 \u00b2 ", "5 0000002 ", "5 1,0 0x1:0", "5 1,0 0x1:,", "5 0,1 1x0:0", "0000005 2 ", "None", "5 2 None",
        ):
            self.assertFalse(self.judged(text), repr(text))

    def test_numbers_of_more_than_six_digits(self):
        for text in (
            "5000000 2 ", "1000000 2 ", "5 1000000 ", "5 1,1 1x1:1000001", "5 1,0 1000000x0:", "5 1,0 0x1000000:",
            "5 10000000000000000000 ", "5 " + "9" * 5000 + " ", "9" * 5000 + " 1 ",
        ):
            self.assertFalse(self.judged(text))

    def test_beyond_the_bounds(self):
        # What is beyond them may be read or refused, but always alike, and without a great effort.
        start = time.monotonic()
        for text in (
            "5 41 ", "5 999 ", "5 999999 ", "5 0,999999 999999x0:", "5 999999,0 0x999999:",
            "5 999999,999999 999999x999999:",
            "5 " + "0," * 60 + "0 " + ";".join(["0x0:"] * 60),
        ):
            told = []
            for _ in range(2):
                try:
                    told.append(write_row(read_row(text)))
                except InvalidText as fault:
                    told.append(fault.line)
            self.assertIn(told, ([text, text], [1, 1]))
        self.assertLess(time.monotonic() - start, 5)

    def test_the_greatest_dimension_that_is_read(self):
        for text in ("5 1000 ", "5 1000,0 0x1000:", "5 0,1000 1000x0:"):
            self.assertTrue(self.judged(text))
            with self.assertRaises(InvalidText):
                read_row(text.replace("1000", "1001"))
        for text in ("5 1,1 1001x0:", "5 1,1 0x1001:"):
            with self.assertRaises(InvalidText):
                read_row(text)


class WeavingTest(unittest.TestCase):
    def judged(self, text, first, second):
        match = re.fullmatch(f"({NUMBER}) ({MATRICES}) ({MATRICES})", text, re.ASCII)
        try:
            told = weaving_told(first, second, *match.groups()) if match else None
        except WovenError:
            told = None
        if told is None:
            with self.assertRaises(InvalidText, msg=repr(text)) as caught:
                read_weaving(text, first, second)
            self.assertEqual(caught.exception.line, 1)
        else:
            found = read_weaving(text, first, second)
            self.assertIs(type(found), Weaving)
            self.assertEqual((found, write_weaving(found)), (told, text))
        return told is not None

    def drawn_weavings(self, seed, times):
        chance = random.Random(seed)
        for _ in range(times):
            first, second = any_rows(chance, chance.choice(BASES), 2)
            paper = compare(first, second)
            if paper[0] == "woven":
                yield paper[1].slowed(paper[1].lag + chance.randrange(2))

    def test_what_is_written(self):
        for weaving in self.drawn_weavings(41, 60):
            text = write_weaving(weaving)
            self.assertEqual(read_weaving(text, weaving.first, weaving.second), weaving)
            turned = weaving.turned()
            self.assertEqual(read_weaving(write_weaving(turned), turned.first, turned.second), turned)

    def test_changed_texts(self):
        valid = 0
        weavings = [Weaving.still(Row(5, [0], [])), Weaving.still(Row(5, [1], []))]
        weavings.append(compare(row_of_bars(5, 1, [(0, None)]), row_of_bars(5, 1, [(1, None)]))[1])
        for weaving in weavings + list(self.drawn_weavings(42, 5)):
            text = write_weaving(weaving)
            if len(text) < 150:
                for other in all_changes(text):
                    valid += self.judged(other, weaving.first, weaving.second)
        self.assertGreater(valid, 100)

    def test_other_rows(self):
        read = 0
        for weaving in self.drawn_weavings(43, 25):
            text, first, second = write_weaving(weaving), weaving.first, weaving.second
            for rows in (
                (first, second), (second, first), (first, first), (second, second), (first.later(1), second),
                (first.prolonged(first.last + 1), second), (first, second.prolonged(second.last + 1)),
            ):
                read += self.judged(text, *rows)
        self.assertGreater(read, 25)

    def test_told_faults(self):
        row = Row(5, [1], [])
        self.assertTrue(self.judged("0 1x1:2 1x1:3", row, row))
        for text in (
            "", "0", "0 ", "0  ", "0 1x1:2", "0 1x1:2 ", "0 1x1:2 1x1:3 ", "0 1x1:2  1x1:3", "0 1x1:2 1x1:2",
            "0  1x1:3", "0 1x1:2;1x1:2 1x1:3;1x1:3", "00 1x1:2 1x1:3", "-0 1x1:2 1x1:3", "0 1x1:2 1x1:8",
            "0 1x1:2 1x1:3\n", " 0 1x1:2 1x1:3", "0 1x1:2; 1x1:3", "0 1x1:2 ;1x1:3", "0000000 1x1:2 1x1:3",
            "0 1x1:2\n1x1:3", "0 0x1: 1x0:", "0 1x1:2\t1x1:3", "0 1x1:+2 1x1:3",
        ):
            self.assertFalse(self.judged(text, row, row), repr(text))


class BookTest(unittest.TestCase):
    def judged(self, text):
        told = fault_told(text)
        if told is None:
            book = read_book(text)
            self.assertIs(type(book), Book)
            self.assertEqual(write_book(book), text)
        else:
            with self.assertRaises(InvalidText, msg=repr(text)) as caught:
                read_book(text)
            self.assertEqual(caught.exception.line, told, repr(text))
        return told

    def drawn_books(self, seed, times, most_rows=4, most_claims=5):
        chance = random.Random(seed)
        for _ in range(times):
            yield any_book(chance, chance.choice((2, 5, 97)), most_rows, most_claims)

    def test_what_is_written(self):
        for book, names, rows, claims in self.drawn_books(44, 60, 6, 9):
            text = write_book(book)
            again = read_book(text)
            self.assertEqual(again.names(), names)
            self.assertEqual([again.row(name) for name in names], rows)
            self.assertEqual(again.claims(), claims)
            self.assertEqual(write_book(again), text)
            self.assertIsNot(read_book(text), again)

    def test_the_empty_text(self):
        book = read_book("")
        self.assertEqual((book.names(), book.claims(), write_book(book)), ([], [], ""))
        book.add("a", Row(5, [0], []))
        self.assertEqual(read_book("").names(), [])
        for text, line in (("\n", 1), (" ", 1), ("\n\n", 1), ("row a 5 0 \n", 2), ("row a 5 0 \n\n", 2)):
            self.assertEqual(self.judged(text), line)

    def told_text(self):
        """A text with two rows over one base, one over another base, and claims of each kind."""
        return "\n".join((
            "row a 5 1,1 1x1:1", "row b 5 2 ", "row c 7 0,1 1x0:", "row d 5 0,1 1x0:", "lonely a b 0 second 0,1",
            "woven a a 0 1x1:2;1x1:2 1x1:3;1x1:3", "apart b a first 0,1", "woven d a 1 1x0:;1x1:1 1x1:1;1x1:1",
        ))

    def test_changed_texts(self):
        text = self.told_text()
        self.assertIsNone(self.judged(text))
        seen = [self.judged(other) for other in all_changes(text)]
        self.assertEqual(set(seen), {None, *range(1, 10)})
        self.assertGreater(seen.count(None), 100)

    def test_changed_drawn_texts(self):
        chance = random.Random(45)
        for book, _, _, _ in self.drawn_books(46, 25):
            text = write_book(book)
            for _ in range(120):
                at = chance.randrange(len(text) + 1)
                for other in changed(text, at, chance.choice(SIGNS)):
                    self.judged(other)
                self.judged(text[:at] + text[at + 1:])
                self.judged(text[:at])

    def test_lines_exchanged_left_out_or_doubled(self):
        seen = []
        for text in (self.told_text(), *[write_book(book) for book, _, _, _ in self.drawn_books(47, 12)]):
            lines = text.split("\n")
            for one in range(len(lines)):
                seen.append(self.judged("\n".join(lines[:one] + lines[one + 1:])))
                seen.append(self.judged("\n".join(lines[:one] + lines[one:one + 1] + lines[one:])))
                seen.append(self.judged("\n".join(lines[:one] + [""] + lines[one:])))
                for other in range(one):
                    mixed = list(lines)
                    mixed[one], mixed[other] = mixed[other], mixed[one]
                    seen.append(self.judged("\n".join(mixed)))
            for end in ("\n", "\r", " ", "\r\n", "\n\n"):
                self.judged(text + end)
                self.judged(text.replace("\n", "\r\n"))
        for told in (None, 1, 2, 3, 4, 5, 6):
            self.assertGreater(seen.count(told), 5, told)

    def test_told_faults(self):
        told = self.told_text()
        for line in (
            "", "row", "row ", "row e", "row e ", "row e 5", "row e 5 0", "rows e 5 0 ", "Row e 5 0 ", "lonely",
            "lonely a b", "lonely a b 0 second", "lonely a b 0 second ", "lonely a b 0 third 0,1",
            "lonely a b 0 first 0,1", "lonely a b 0 second 1,0", "lonely a b 0 second 0,0", "lonely a b 0 second 0",
            "lonely a b 0 second 00,1", "lonely a b 0 second 0, 1", "lonely a b 0 second 0,1,",
            "lonely a b 0 second 0,1 ", "lonely a b -0 second 0,1", "lonely a b -1 second 0,1",
            "lonely a b 0000000 second 0,1", "lonely a b 1000000 second 0,1", "lonely a e 0 second 0,1",
            "lonely e b 0 second 0,1", "lonely c b 0 second 0,1", "lonely  a b 0 second 0,1", "apart b a",
            "apart b a first", "apart b a first ", "apart b a second 0,1", "apart b a 0,1", "apart b a First 0,1",
            "apart b a first 0,1 ", "apart b a first 1", "apart b c first 0,1", "apart b e first 0,1",
            "apart e a first 0,1", "apart b a first 0;1", "apart b a first 0,2", "apart b a first -1,0,1",
            "apart b a 0 first 0,1", "woven a a", "woven a a 0", "woven a a 0 1x1:2;1x1:2",
            "woven a a 0 1x1:2;1x1:2 ", "woven a b 0 1x1:2;1x1:2 1x1:3;1x1:3", "woven a e 0 1x1:2;1x1:2 1x1:3;1x1:3",
            "woven a a 1 1x1:2;1x1:2 1x1:3;1x1:2", "woven a a 0 1x1:2;1x1:2 1x1:4;1x1:4",
            "woven a c 0 1x1:2;1x1:2 1x1:3;1x1:3", "woven c a 0 1x0:;1x1:1 0x1:;1x1:1", "row e 5 0 ", "claim a b",
            "#",
        ):
            self.assertEqual(self.judged(told + "\n" + line), 9, line)
            self.assertEqual(self.judged(line + "\n" + told), None if line == "row e 5 0 " else 1, line)

    def test_rows_that_can_not_be_added(self):
        for line in (
            "row a 5 0 ", "row A 5 0 ", "row  5 0 ", "row abcdefghijklm 5 0 ", "row a1 5 0 ", "row e 4 0 ",
            "row e 5 1,1 1x1:5", "row e 5 1,1 ", "row e 5 1 1x1:1", "row e 5  ", "row e e 5 0 ", "row e 5 0  ",
            "row e 5 0 \r", "row\te 5 0 ",
        ):
            self.assertEqual(self.judged("row a 5 0 \n" + line), 2, line)
            self.assertEqual(self.judged("row a 5 0 \n" + line + "\nrow a"), 2, line)
        self.assertIsNone(self.judged("row a 5 0 \nrow abcdefghijkl 5 0 \nrow row 7 0 "))

    def test_names_like_words(self):
        text = "row row 5 1 \nrow woven 5 1 \nrow first 5 2 \n"
        text += "woven row woven 0 1x1:1 1x1:1\nlonely first row 7 first 0,1"
        self.assertIsNone(self.judged(text))
        self.assertIsNone(self.judged(text + "\napart row first second 0,1"))

    def test_claims_in_order(self):
        book = read_book(self.told_text())
        self.assertEqual([claim[0] for claim in book.claims()], ["lonely", "woven", "apart", "woven"])
        self.assertEqual(book.claims()[0], ("lonely", "a", "b", 0, "second", (0, 1)))
        self.assertEqual(book.high("a", "d"), 1)
        self.assertIs(book.are_apart("d", "b"), True)

    def test_numbers_of_six_digits(self):
        text = "row a 5 2 \nrow b 5 1 \nwoven b b 123456 1x1:1 1x1:1\nlonely a b 999999 first 0,1"
        self.assertIsNone(self.judged(text))
        self.assertEqual(self.judged(text.replace("999999", "1000000")), 4)
        self.assertEqual(self.judged(text.replace("123456", "1234567")), 3)
        self.assertEqual(self.judged(text.replace("123456", "012345")), 3)

    def test_beyond_the_bounds(self):
        start = time.monotonic()
        for text in ("row a 5 999999 \nlonely a a 0 first 0", "row a 5 0 \nlonely a a 999999 first 0",
                     "row a 5 1 \nwoven a a 999999 1x1:1 1x1:1", "row a 5 999999 "):
            told = []
            for _ in range(2):
                try:
                    told.append(write_book(read_book(text)))
                except InvalidText as fault:
                    told.append(fault.line)
            self.assertEqual(told[0], told[1])
        self.assertLess(time.monotonic() - start, 10)

    def test_long_texts(self):
        chance = random.Random(48)
        start = time.monotonic()
        rows = [Row(97, [12] * 9, [any_matrix(chance, 97, 12, 12) for _ in range(8)]) for _ in range(5)]
        book = Book()
        for name, row in zip("abcde", rows):
            book.add(name, row)
        for one, other in ("ab", "bc", "cd", "de", "ea"):
            self.assertIs(book.offer_weaving(one, other, compare(book.row(one), book.row(other))[1]), True)
        text = write_book(book)
        self.assertGreater(len(text), 40000)
        again = read_book(text)
        self.assertEqual((again.names(), again.claims()), (book.names(), book.claims()))
        self.assertEqual(write_book(again), text)
        for _ in range(10):
            at = chance.randrange(len(text))
            self.judged(text[:at] + chance.choice(SIGNS) + text[at + 1:])
        self.assertLess(time.monotonic() - start, 30)


if __name__ == "__main__":
    unittest.main()
