"""Reading rows, weavings and books from their written form."""

from barswoven.book import Book
from barswoven.errors import InvalidText, WovenError
from barswoven.lagmap import LagMap
from barswoven.matrix import Matrix
from barswoven.row import Row
from barswoven.weaving import Weaving

DIGITS = "0123456789"
MOST_DIGITS = 6
# A row of a few characters could tell of spaces so great that no claim about it could be judged.
GREATEST_DIMENSION = 1000


def read_row(text):
    """The row whose written form is the text."""
    try:
        return _row_of(text)
    except WovenError:
        raise InvalidText(1) from None


def read_weaving(text, first, second):
    """The weaving of the two rows whose written form is the text."""
    try:
        return _weaving_of(text, first, second)
    except WovenError:
        raise InvalidText(1) from None


def read_book(text):
    """The book whose written form is the text."""
    book = Book()
    lines = [] if text == "" else text.split("\n")
    for place, line in enumerate(lines):
        if not _is_taken(book, line):
            raise InvalidText(place + 1)
    return book


def _is_taken(book, line):
    """True if the line is valid and the book has taken what it tells, otherwise False."""
    try:
        return _take(book, line)
    except WovenError:
        return False


def _take(book, line):
    """Add the row of the line, or offer its claim: True if it is taken."""
    parts = line.split(" ")
    if parts[0] == "row" and len(parts) == 5 and len(book.claims()) == 0:
        book.add(parts[1], read_row(" ".join(parts[2:])))
        return True
    if parts[0] == "woven" and len(parts) == 6:
        first, second = parts[1], parts[2]
        weaving = read_weaving(" ".join(parts[3:]), book.row(first), book.row(second))
        return book.offer_weaving(first, second, weaving)
    if parts[0] == "lonely" and len(parts) == 6:
        _, first, second, lag, side, places = parts
        return _is_side(side) and book.offer_lonely(first, second, _number(lag), side, _numbers(places))
    if parts[0] == "apart" and len(parts) == 5:
        _, first, second, side, places = parts
        return _is_side(side) and book.offer_apart(first, second, side, _numbers(places))
    return False


def _row_of(text):
    base, dims, steps = _parts(text, " ", 3)
    sizes = [_dimension(size) for size in _split(dims, ",")]
    return Row(_number(base), sizes, [_matrix_of(step, _number(base)) for step in _split(steps, ";")])


def _weaving_of(text, first, second):
    lag, forth, back = _parts(text, " ", 3)
    there = LagMap(first, second, _number(lag), [_matrix_of(part, first.base) for part in _split(forth, ";")])
    again = LagMap(second, first, _number(lag), [_matrix_of(part, first.base) for part in _split(back, ";")])
    return Weaving(there, again)


def _matrix_of(text, base):
    size, told = _parts(text, ":", 2)
    height, width = [_dimension(number) for number in _parts(size, "x", 2)]
    entries = _numbers(told)
    if len(entries) != height * width:
        raise InvalidText(1)
    return Matrix(base, width, [entries[at * width:(at + 1) * width] for at in range(height)])


def _dimension(text):
    """The number of a height, a width or a dimension."""
    number = _number(text)
    if number > GREATEST_DIMENSION:
        raise InvalidText(1)
    return number


def _number(text):
    if len(text) > MOST_DIGITS or not all([sign in DIGITS for sign in text]):
        raise InvalidText(1)
    # Only one form of a number is valid; no digits at all are none.
    if text == "" or (text[0] == "0" and text != "0"):
        raise InvalidText(1)
    return int(text)


def _numbers(text):
    return [_number(part) for part in _split(text, ",")]


def _is_side(text):
    return text in ("first", "second")


def _parts(text, sign, many):
    """The parts of the text between so many signs that there are this many of them."""
    parts = text.split(sign)
    if len(parts) != many:
        raise InvalidText(1)
    return parts


def _split(text, sign):
    """The list of the parts of the text, none if it is empty."""
    if text == "":
        return []
    return text.split(sign)
